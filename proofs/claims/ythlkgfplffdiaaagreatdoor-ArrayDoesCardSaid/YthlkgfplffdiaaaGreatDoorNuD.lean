/- Merged by gen/ar_merge.py: NuFind, NuWhich, NuApply, NuDy, NuShown. -/
import Derived.Test.YthlkgfplffdiaaaGreatDoorNuB
import Derived.Test.YthlkgfplffdiaaaGreatDoorNuC
/- Number's finders: the function of a glyph, in maps (by wip/gen/mknufind.py). -/
namespace Go.Proofs.YthlkgfplffdiaaaGreatDoor.Nu
open Go Go.RowKit Go.Shelf
attribute [local go_sem] Oper.semAt_some

def fvOf (r : Option (Nat × Value)) : Value := match r with
  | some x => x.2
  | none => .nilFunc
def okOf (r : Option (Nat × Value)) : Bool := match r with
  | some _ => true
  | none => false
theorem ansF_eq (r : Option (Nat × Value)) : ansF r = .tuple #[fvOf r, .bool (okOf r)] := by cases r <;> rfl
def recL : List (ByteArray × Value) := [(⟨#[43]⟩, fnV 124), (⟨#[45]⟩, fnV 126), (⟨#[195, 151]⟩, fnV 128), (⟨#[195, 183]⟩, fnV 130), (⟨#[226, 140, 136]⟩, fnV 132), (⟨#[226, 140, 138]⟩, fnV 133), (⟨#[124]⟩, fnV 134)]
set_option maxRecDepth 100000 in
set_option maxHeartbeats 2000000 in
theorem reckoner_c (s : ByteArray) (w : World) : Calls Tryz.prog 107 #[.string s] w fun e w' => e = .returned (.tuple #[fvOf (ask s recL.zipIdx 0), .bool (okOf (ask s recL.zipIdx 0))]) ∧ Below w.heap.size w w' := by
  have hmm : (Instr.makeMap 122 none).run Tryz.prog w = .ok (.map (some w.heap.size)) (w.alloc (.map #[] 0)) := run_makeMap _ w
  have h0 := new_map w
  have b0 : Below w.heap.size w (w.alloc (.map #[] 0)) := (Below.refl _ w).alloc (Nat.le_refl _) _
  obtain ⟨B1, r1, h1, c1, -⟩ := ins_map h0 ⟨#[43]⟩ (fnV 124) rfl
  have b1 := b0.trans (c1 w.heap.size (Nat.le_refl _))
  obtain ⟨B2, r2, h2, c2, -⟩ := ins_map h1 ⟨#[45]⟩ (fnV 126) rfl
  have b2 := b1.trans (c2 w.heap.size (Nat.le_refl _))
  obtain ⟨B3, r3, h3, c3, -⟩ := ins_map h2 ⟨#[195, 151]⟩ (fnV 128) rfl
  have b3 := b2.trans (c3 w.heap.size (Nat.le_refl _))
  obtain ⟨B4, r4, h4, c4, -⟩ := ins_map h3 ⟨#[195, 183]⟩ (fnV 130) rfl
  have b4 := b3.trans (c4 w.heap.size (Nat.le_refl _))
  obtain ⟨B5, r5, h5, c5, -⟩ := ins_map h4 ⟨#[226, 140, 136]⟩ (fnV 132) rfl
  have b5 := b4.trans (c5 w.heap.size (Nat.le_refl _))
  obtain ⟨B6, r6, h6, c6, -⟩ := ins_map h5 ⟨#[226, 140, 138]⟩ (fnV 133) rfl
  have b6 := b5.trans (c6 w.heap.size (Nat.le_refl _))
  obtain ⟨B7, r7, h7, c7, -⟩ := ins_map h6 ⟨#[124]⟩ (fnV 134) rfl
  have b7 := b6.trans (c7 w.heap.size (Nat.le_refl _))
  have hl := look_map h7 s
  have el : ask s (([] ++ [(⟨#[43]⟩, fnV 124)] ++ [(⟨#[45]⟩, fnV 126)] ++ [(⟨#[195, 151]⟩, fnV 128)] ++ [(⟨#[195, 183]⟩, fnV 130)] ++ [(⟨#[226, 140, 136]⟩, fnV 132)] ++ [(⟨#[226, 140, 138]⟩, fnV 133)] ++ [(⟨#[124]⟩, fnV 134)] : List (ByteArray × Value)).zipIdx) 0 = ask s recL.zipIdx 0 := rfl
  rw [el, ansF_eq] at hl
  obtain ⟨fv, hfv⟩ : ∃ fv, fv = fvOf (ask s recL.zipIdx 0) := ⟨_, rfl⟩
  obtain ⟨ok, hok⟩ : ∃ ok, ok = okOf (ask s recL.zipIdx 0) := ⟨_, rfl⟩
  rw [← hfv, ← hok] at hl ⊢
  have HB := Lib.hid b7
  clear hfv hok el h0 b0 h1 b1 h2 b2 h3 b3 h4 b4 h5 b5 h6 b6 h7 b7 c1 c2 c3 c4 c5 c6 c7
  go_enter Tryz.func107, Tryz.ntmps107
  go_wp2
  go_ret2
  exact ⟨rfl, HB.out⟩
def oneL : List (ByteArray × Value) := [(⟨#[43]⟩, fnV 89), (⟨#[45]⟩, fnV 90), (⟨#[195, 151]⟩, fnV 93), (⟨#[195, 183]⟩, fnV 95), (⟨#[226, 140, 136]⟩, fnV 89), (⟨#[226, 140, 138]⟩, fnV 89), (⟨#[124]⟩, fnV 98), (⟨#[126]⟩, fnV 99)]
set_option maxRecDepth 100000 in
set_option maxHeartbeats 2000000 in
theorem ofOne_c (s : ByteArray) (w : World) : Calls Tryz.prog 61 #[.string s] w fun e w' => e = .returned (.tuple #[fvOf (ask s oneL.zipIdx 0), .bool (okOf (ask s oneL.zipIdx 0))]) ∧ Below w.heap.size w w' := by
  have hmm : (Instr.makeMap 122 none).run Tryz.prog w = .ok (.map (some w.heap.size)) (w.alloc (.map #[] 0)) := run_makeMap _ w
  have h0 := new_map w
  have b0 : Below w.heap.size w (w.alloc (.map #[] 0)) := (Below.refl _ w).alloc (Nat.le_refl _) _
  obtain ⟨B1, r1, h1, c1, -⟩ := ins_map h0 ⟨#[43]⟩ (fnV 89) rfl
  have b1 := b0.trans (c1 w.heap.size (Nat.le_refl _))
  obtain ⟨B2, r2, h2, c2, -⟩ := ins_map h1 ⟨#[45]⟩ (fnV 90) rfl
  have b2 := b1.trans (c2 w.heap.size (Nat.le_refl _))
  obtain ⟨B3, r3, h3, c3, -⟩ := ins_map h2 ⟨#[195, 151]⟩ (fnV 93) rfl
  have b3 := b2.trans (c3 w.heap.size (Nat.le_refl _))
  obtain ⟨B4, r4, h4, c4, -⟩ := ins_map h3 ⟨#[195, 183]⟩ (fnV 95) rfl
  have b4 := b3.trans (c4 w.heap.size (Nat.le_refl _))
  obtain ⟨B5, r5, h5, c5, -⟩ := ins_map h4 ⟨#[226, 140, 136]⟩ (fnV 89) rfl
  have b5 := b4.trans (c5 w.heap.size (Nat.le_refl _))
  obtain ⟨B6, r6, h6, c6, -⟩ := ins_map h5 ⟨#[226, 140, 138]⟩ (fnV 89) rfl
  have b6 := b5.trans (c6 w.heap.size (Nat.le_refl _))
  obtain ⟨B7, r7, h7, c7, -⟩ := ins_map h6 ⟨#[124]⟩ (fnV 98) rfl
  have b7 := b6.trans (c7 w.heap.size (Nat.le_refl _))
  obtain ⟨B8, r8, h8, c8, -⟩ := ins_map h7 ⟨#[126]⟩ (fnV 99) rfl
  have b8 := b7.trans (c8 w.heap.size (Nat.le_refl _))
  have hl := look_map h8 s
  have el : ask s (([] ++ [(⟨#[43]⟩, fnV 89)] ++ [(⟨#[45]⟩, fnV 90)] ++ [(⟨#[195, 151]⟩, fnV 93)] ++ [(⟨#[195, 183]⟩, fnV 95)] ++ [(⟨#[226, 140, 136]⟩, fnV 89)] ++ [(⟨#[226, 140, 138]⟩, fnV 89)] ++ [(⟨#[124]⟩, fnV 98)] ++ [(⟨#[126]⟩, fnV 99)] : List (ByteArray × Value)).zipIdx) 0 = ask s oneL.zipIdx 0 := rfl
  rw [el, ansF_eq] at hl
  obtain ⟨fv, hfv⟩ : ∃ fv, fv = fvOf (ask s oneL.zipIdx 0) := ⟨_, rfl⟩
  obtain ⟨ok, hok⟩ : ∃ ok, ok = okOf (ask s oneL.zipIdx 0) := ⟨_, rfl⟩
  rw [← hfv, ← hok] at hl ⊢
  have HB := Lib.hid b8
  clear hfv hok el h0 b0 h1 b1 h2 b2 h3 b3 h4 b4 h5 b5 h6 b6 h7 b7 h8 b8 c1 c2 c3 c4 c5 c6 c7 c8
  go_enter Tryz.func61, Tryz.ntmps61
  go_wp2
  go_ret2
  exact ⟨rfl, HB.out⟩
/-- Judge's map: of six boxes. -/
def judL (b : Nat → Nat) : List (ByteArray × Value) := [(⟨#[61]⟩, cmpV (b 7)), (⟨#[226, 137, 160]⟩, cmpV (b 8)), (⟨#[60]⟩, cmpV (b 9)), (⟨#[62]⟩, cmpV (b 10)), (⟨#[226, 137, 164]⟩, cmpV (b 11)), (⟨#[226, 137, 165]⟩, cmpV (b 12)), (⟨#[226, 136, 167]⟩, fnV 137), (⟨#[226, 136, 168]⟩, fnV 138)]
set_option maxRecDepth 100000 in
set_option maxHeartbeats 4000000 in
theorem judge_c (s : ByteArray) (w : World) : Calls Tryz.prog 108 #[.string s] w fun e w' => ∃ b : Nat → Nat, e = .returned (.tuple #[fvOf (ask s (judL b).zipIdx 0), .bool (okOf (ask s (judL b).zipIdx 0))]) ∧ (∀ k, 7 ≤ k → k < 13 → b k < w'.heap.size ∧ w'.cell? ⟨b k, 0, none⟩ = some (.string (dyG k))) ∧ Below w.heap.size w w' := by
  have hmm : (Instr.makeMap 122 none).run Tryz.prog w = .ok (.map (some w.heap.size)) (w.alloc (.map #[] 0)) := run_makeMap _ w
  have h0 := new_map w
  have b0 : Below w.heap.size w (w.alloc (.map #[] 0)) := (Below.refl _ w).alloc (Nat.le_refl _) _
  have z0 : (w.alloc (.map #[] 0)).heap.size = w.heap.size + 1 := by simp
  have a1 : Below w.heap.size w ((w.alloc (.map #[] 0)).alloc (.cells #[.string ⟨#[61]⟩] 9)) := b0.alloc b0.size _
  have n1 : ((w.alloc (.map #[] 0)).alloc (.cells #[.string ⟨#[61]⟩] 9)).heap[(w.heap.size + 1)]? = some (.cells #[.string ⟨#[61]⟩] 9 (0, 0)) := by rw [← z0]; exact World.alloc_heap_new _ _
  have l1 : (w.heap.size + 1) ≠ w.heap.size ∧ (w.heap.size + 1) < ((w.alloc (.map #[] 0)).alloc (.cells #[.string ⟨#[61]⟩] 9)).heap.size := by rw [World.size_alloc, z0]; omega
  obtain ⟨B1, r1, h1, c1, k1⟩ := ins_map (h0.below ((Below.refl _ _).alloc (Nat.le_refl _) (.cells #[.string ⟨#[61]⟩] 9))) ⟨#[61]⟩ (cmpV (w.heap.size + 1)) rfl
  have b1 := a1.trans (c1 w.heap.size (Nat.le_refl _))
  have a2 : Below w.heap.size w (B1.alloc (.cells #[.string ⟨#[226, 137, 160]⟩] 9)) := b1.alloc b1.size _
  have n2 : (B1.alloc (.cells #[.string ⟨#[226, 137, 160]⟩] 9)).heap[B1.heap.size]? = some (.cells #[.string ⟨#[226, 137, 160]⟩] 9 (0, 0)) := by exact World.alloc_heap_new _ _
  have l2 : B1.heap.size ≠ w.heap.size ∧ B1.heap.size < (B1.alloc (.cells #[.string ⟨#[226, 137, 160]⟩] 9)).heap.size := by rw [World.size_alloc]; have := h1.lt; omega
  obtain ⟨B2, r2, h2, c2, k2⟩ := ins_map (h1.below ((Below.refl _ _).alloc (Nat.le_refl _) (.cells #[.string ⟨#[226, 137, 160]⟩] 9))) ⟨#[226, 137, 160]⟩ (cmpV B1.heap.size) rfl
  have b2 := a2.trans (c2 w.heap.size (Nat.le_refl _))
  have a3 : Below w.heap.size w (B2.alloc (.cells #[.string ⟨#[60]⟩] 9)) := b2.alloc b2.size _
  have n3 : (B2.alloc (.cells #[.string ⟨#[60]⟩] 9)).heap[B2.heap.size]? = some (.cells #[.string ⟨#[60]⟩] 9 (0, 0)) := by exact World.alloc_heap_new _ _
  have l3 : B2.heap.size ≠ w.heap.size ∧ B2.heap.size < (B2.alloc (.cells #[.string ⟨#[60]⟩] 9)).heap.size := by rw [World.size_alloc]; have := h2.lt; omega
  obtain ⟨B3, r3, h3, c3, k3⟩ := ins_map (h2.below ((Below.refl _ _).alloc (Nat.le_refl _) (.cells #[.string ⟨#[60]⟩] 9))) ⟨#[60]⟩ (cmpV B2.heap.size) rfl
  have b3 := a3.trans (c3 w.heap.size (Nat.le_refl _))
  have a4 : Below w.heap.size w (B3.alloc (.cells #[.string ⟨#[62]⟩] 9)) := b3.alloc b3.size _
  have n4 : (B3.alloc (.cells #[.string ⟨#[62]⟩] 9)).heap[B3.heap.size]? = some (.cells #[.string ⟨#[62]⟩] 9 (0, 0)) := by exact World.alloc_heap_new _ _
  have l4 : B3.heap.size ≠ w.heap.size ∧ B3.heap.size < (B3.alloc (.cells #[.string ⟨#[62]⟩] 9)).heap.size := by rw [World.size_alloc]; have := h3.lt; omega
  obtain ⟨B4, r4, h4, c4, k4⟩ := ins_map (h3.below ((Below.refl _ _).alloc (Nat.le_refl _) (.cells #[.string ⟨#[62]⟩] 9))) ⟨#[62]⟩ (cmpV B3.heap.size) rfl
  have b4 := a4.trans (c4 w.heap.size (Nat.le_refl _))
  have a5 : Below w.heap.size w (B4.alloc (.cells #[.string ⟨#[226, 137, 164]⟩] 9)) := b4.alloc b4.size _
  have n5 : (B4.alloc (.cells #[.string ⟨#[226, 137, 164]⟩] 9)).heap[B4.heap.size]? = some (.cells #[.string ⟨#[226, 137, 164]⟩] 9 (0, 0)) := by exact World.alloc_heap_new _ _
  have l5 : B4.heap.size ≠ w.heap.size ∧ B4.heap.size < (B4.alloc (.cells #[.string ⟨#[226, 137, 164]⟩] 9)).heap.size := by rw [World.size_alloc]; have := h4.lt; omega
  obtain ⟨B5, r5, h5, c5, k5⟩ := ins_map (h4.below ((Below.refl _ _).alloc (Nat.le_refl _) (.cells #[.string ⟨#[226, 137, 164]⟩] 9))) ⟨#[226, 137, 164]⟩ (cmpV B4.heap.size) rfl
  have b5 := a5.trans (c5 w.heap.size (Nat.le_refl _))
  have a6 : Below w.heap.size w (B5.alloc (.cells #[.string ⟨#[226, 137, 165]⟩] 9)) := b5.alloc b5.size _
  have n6 : (B5.alloc (.cells #[.string ⟨#[226, 137, 165]⟩] 9)).heap[B5.heap.size]? = some (.cells #[.string ⟨#[226, 137, 165]⟩] 9 (0, 0)) := by exact World.alloc_heap_new _ _
  have l6 : B5.heap.size ≠ w.heap.size ∧ B5.heap.size < (B5.alloc (.cells #[.string ⟨#[226, 137, 165]⟩] 9)).heap.size := by rw [World.size_alloc]; have := h5.lt; omega
  obtain ⟨B6, r6, h6, c6, k6⟩ := ins_map (h5.below ((Below.refl _ _).alloc (Nat.le_refl _) (.cells #[.string ⟨#[226, 137, 165]⟩] 9))) ⟨#[226, 137, 165]⟩ (cmpV B5.heap.size) rfl
  have b6 := a6.trans (c6 w.heap.size (Nat.le_refl _))
  obtain ⟨B7, r7, h7, c7, k7⟩ := ins_map h6 ⟨#[226, 136, 167]⟩ (fnV 137) rfl
  have b7 := b6.trans (c7 w.heap.size (Nat.le_refl _))
  obtain ⟨B8, r8, h8, c8, k8⟩ := ins_map h7 ⟨#[226, 136, 168]⟩ (fnV 138) rfl
  have b8 := b7.trans (c8 w.heap.size (Nat.le_refl _))
  have t6 := k6.trans (k7.trans k8)
  have t5 := k5.trans ((Kp.alloc w.heap.size B5 (.cells #[.string ⟨#[226, 137, 165]⟩] 9)).trans t6)
  have t4 := k4.trans ((Kp.alloc w.heap.size B4 (.cells #[.string ⟨#[226, 137, 164]⟩] 9)).trans t5)
  have t3 := k3.trans ((Kp.alloc w.heap.size B3 (.cells #[.string ⟨#[62]⟩] 9)).trans t4)
  have t2 := k2.trans ((Kp.alloc w.heap.size B2 (.cells #[.string ⟨#[60]⟩] 9)).trans t3)
  have t1 := k1.trans ((Kp.alloc w.heap.size B1 (.cells #[.string ⟨#[226, 137, 160]⟩] 9)).trans t2)
  obtain ⟨b, hb⟩ : ∃ b : Nat → Nat, b = fun k => match k with | 7 => w.heap.size + 1 | 8 => B1.heap.size | 9 => B2.heap.size | 10 => B3.heap.size | 11 => B4.heap.size | _ => B5.heap.size := ⟨_, rfl⟩
  have HS : Hid (∀ k, 7 ≤ k → k < 13 → b k < B8.heap.size ∧ B8.cell? ⟨b k, 0, none⟩ = some (.string (dyG k))) := Lib.hid (fun k h7 h13 => by
    rw [hb]
    rcases (by omega : k = 7 ∨ k = 8 ∨ k = 9 ∨ k = 10 ∨ k = 11 ∨ k = 12) with rfl | rfl | rfl | rfl | rfl | rfl
    · exact ⟨Nat.lt_of_lt_of_le l1.2 t1.1, by simp [World.cell?, (t1.2 _ l1.1 l1.2).trans n1, dyG]⟩
    · exact ⟨Nat.lt_of_lt_of_le l2.2 t2.1, by simp [World.cell?, (t2.2 _ l2.1 l2.2).trans n2, dyG]⟩
    · exact ⟨Nat.lt_of_lt_of_le l3.2 t3.1, by simp [World.cell?, (t3.2 _ l3.1 l3.2).trans n3, dyG]⟩
    · exact ⟨Nat.lt_of_lt_of_le l4.2 t4.1, by simp [World.cell?, (t4.2 _ l4.1 l4.2).trans n4, dyG]⟩
    · exact ⟨Nat.lt_of_lt_of_le l5.2 t5.1, by simp [World.cell?, (t5.2 _ l5.1 l5.2).trans n5, dyG]⟩
    · exact ⟨Nat.lt_of_lt_of_le l6.2 t6.1, by simp [World.cell?, (t6.2 _ l6.1 l6.2).trans n6, dyG]⟩
    )
  have hl := look_map h8 s
  have el : ask s (([] ++ [(⟨#[61]⟩, cmpV (w.heap.size + 1))] ++ [(⟨#[226, 137, 160]⟩, cmpV (B1.heap.size))] ++ [(⟨#[60]⟩, cmpV (B2.heap.size))] ++ [(⟨#[62]⟩, cmpV (B3.heap.size))] ++ [(⟨#[226, 137, 164]⟩, cmpV (B4.heap.size))] ++ [(⟨#[226, 137, 165]⟩, cmpV (B5.heap.size))] ++ [(⟨#[226, 136, 167]⟩, fnV 137)] ++ [(⟨#[226, 136, 168]⟩, fnV 138)] : List (ByteArray × Value)).zipIdx) 0 = ask s (judL b).zipIdx 0 := by rw [hb]; rfl
  rw [el, ansF_eq] at hl
  have HA : Hid (∃ b' : Nat → Nat, (fvOf (ask s (judL b).zipIdx 0) = fvOf (ask s (judL b').zipIdx 0) ∧ okOf (ask s (judL b).zipIdx 0) = okOf (ask s (judL b').zipIdx 0)) ∧ (∀ k, 7 ≤ k → k < 13 → b' k < B8.heap.size ∧ B8.cell? ⟨b' k, 0, none⟩ = some (.string (dyG k)))) := Lib.hid ⟨b, ⟨rfl, rfl⟩, HS.out⟩
  obtain ⟨fv, hfv⟩ : ∃ fv, fv = fvOf (ask s (judL b).zipIdx 0) := ⟨_, rfl⟩
  obtain ⟨ok, hok⟩ : ∃ ok, ok = okOf (ask s (judL b).zipIdx 0) := ⟨_, rfl⟩
  rw [← hfv, ← hok] at hl HA
  have HB := Lib.hid b8
  clear hfv hok el HS hb b b0 z0 h0 k7 k8 h7 h8 b7 b8 c7 c8 a1 n1 l1 h1 c1 k1 b1 t1 a2 n2 l2 h2 c2 k2 b2 t2 a3 n3 l3 h3 c3 k3 b3 t3 a4 n4 l4 h4 c4 k4 b4 t4 a5 n5 l5 h5 c5 k5 b5 t5 a6 n6 l6 h6 c6 k6 b6 t6
  go_enter Tryz.func108, Tryz.ntmps108
  go_wp2_with (go_at_call 136; refine (compared_c _ _).mono ?_; rintro e w' ⟨rfl, rfl⟩)
  go_ret2
  obtain ⟨b, ⟨e1, e2⟩, hs⟩ := HA.out
  exact ⟨b, by rw [← e1, ← e2]; rfl, hs, HB.out⟩
end Go.Proofs.YthlkgfplffdiaaaGreatDoor.Nu
/- Which function a glyph has (by wip/gen/mknudy.py). -/
namespace Go.Proofs.YthlkgfplffdiaaaGreatDoor.Nu
open Go Go.RowKit Go.Shelf
attribute [local go_sem] Oper.semAt_some

/-- A function's value does N, of x with X. -/
def Does (a : Addr) (W : World) (fv : Value) (X : Int → Prop) (N : Int → Int → Int × Int) : Prop := ∃ f cap, fv = .func (.func f) #[] cap ∧ (cap = #[] ∨ ∃ p : Addr, cap = #[.pointer (some p)]) ∧ (∀ args w, (callFunc f args).run Tryz.prog w = .ok (.enter f args) w) ∧ ∀ x y W', Below W.heap.size W W' → ES W' a → X x → In y → Calls Tryz.prog f (#[chkV x y] ++ cap) W' fun e w' => Out a (N x y) W' e w'
def recF : Nat → Nat
  | 0 => 124
  | 1 => 126
  | 2 => 128
  | 3 => 130
  | 4 => 132
  | 5 => 133
  | _ => 134
def oneF : Nat → Nat
  | 0 => 89
  | 1 => 90
  | 2 => 93
  | 3 => 95
  | 4 => 89
  | 5 => 89
  | 6 => 98
  | _ => 99
def judF (b : Nat → Nat) : Nat → Value
  | 13 => fnV 137
  | 14 => fnV 138
  | k => cmpV (b k)
theorem rec_ask (s : ByteArray) : (∃ k, k < 7 ∧ s = dyG k ∧ ∀ (_ : Unit), ∃ i, ask s (recL).zipIdx 0 = some (i, fnV (recF k))) ∨ ((∀ k, k < 7 → s ≠ dyG k) ∧ ∀ (_ : Unit), ask s (recL).zipIdx 0 = none) := by
  by_cases h0 : s = dyG 0
  · exact .inl ⟨0, by decide, h0, fun _ => ⟨0, by rw [h0]; rfl⟩⟩
  by_cases h1 : s = dyG 1
  · exact .inl ⟨1, by decide, h1, fun _ => ⟨1, by rw [h1]; rfl⟩⟩
  by_cases h2 : s = dyG 2
  · exact .inl ⟨2, by decide, h2, fun _ => ⟨2, by rw [h2]; rfl⟩⟩
  by_cases h3 : s = dyG 3
  · exact .inl ⟨3, by decide, h3, fun _ => ⟨3, by rw [h3]; rfl⟩⟩
  by_cases h4 : s = dyG 4
  · exact .inl ⟨4, by decide, h4, fun _ => ⟨4, by rw [h4]; rfl⟩⟩
  by_cases h5 : s = dyG 5
  · exact .inl ⟨5, by decide, h5, fun _ => ⟨5, by rw [h5]; rfl⟩⟩
  by_cases h6 : s = dyG 6
  · exact .inl ⟨6, by decide, h6, fun _ => ⟨6, by rw [h6]; rfl⟩⟩
  refine .inr ⟨fun k hk => ?_, fun _ => ?_⟩
  · rcases (by omega : k = 0 ∨ k = 1 ∨ k = 2 ∨ k = 3 ∨ k = 4 ∨ k = 5 ∨ k = 6) with rfl | rfl | rfl | rfl | rfl | rfl | rfl
    · exact h0
    · exact h1
    · exact h2
    · exact h3
    · exact h4
    · exact h5
    · exact h6
  · show ask s ((recL).zipIdx) 0 = none
    simp only [recL, List.zipIdx_cons, List.zipIdx_nil, ask]
    rw [if_neg (show ¬ s = ⟨#[43]⟩ from h0), if_neg (show ¬ s = ⟨#[45]⟩ from h1), if_neg (show ¬ s = ⟨#[195, 151]⟩ from h2), if_neg (show ¬ s = ⟨#[195, 183]⟩ from h3), if_neg (show ¬ s = ⟨#[226, 140, 136]⟩ from h4), if_neg (show ¬ s = ⟨#[226, 140, 138]⟩ from h5), if_neg (show ¬ s = ⟨#[124]⟩ from h6)]
theorem one_ask (s : ByteArray) : (∃ k, k < 8 ∧ s = monG k ∧ ∀ (_ : Unit), ∃ i, ask s (oneL).zipIdx 0 = some (i, fnV (oneF k))) ∨ ((∀ k, k < 8 → s ≠ monG k) ∧ ∀ (_ : Unit), ask s (oneL).zipIdx 0 = none) := by
  by_cases h0 : s = monG 0
  · exact .inl ⟨0, by decide, h0, fun _ => ⟨0, by rw [h0]; rfl⟩⟩
  by_cases h1 : s = monG 1
  · exact .inl ⟨1, by decide, h1, fun _ => ⟨1, by rw [h1]; rfl⟩⟩
  by_cases h2 : s = monG 2
  · exact .inl ⟨2, by decide, h2, fun _ => ⟨2, by rw [h2]; rfl⟩⟩
  by_cases h3 : s = monG 3
  · exact .inl ⟨3, by decide, h3, fun _ => ⟨3, by rw [h3]; rfl⟩⟩
  by_cases h4 : s = monG 4
  · exact .inl ⟨4, by decide, h4, fun _ => ⟨4, by rw [h4]; rfl⟩⟩
  by_cases h5 : s = monG 5
  · exact .inl ⟨5, by decide, h5, fun _ => ⟨5, by rw [h5]; rfl⟩⟩
  by_cases h6 : s = monG 6
  · exact .inl ⟨6, by decide, h6, fun _ => ⟨6, by rw [h6]; rfl⟩⟩
  by_cases h7 : s = monG 7
  · exact .inl ⟨7, by decide, h7, fun _ => ⟨7, by rw [h7]; rfl⟩⟩
  refine .inr ⟨fun k hk => ?_, fun _ => ?_⟩
  · rcases (by omega : k = 0 ∨ k = 1 ∨ k = 2 ∨ k = 3 ∨ k = 4 ∨ k = 5 ∨ k = 6 ∨ k = 7) with rfl | rfl | rfl | rfl | rfl | rfl | rfl | rfl
    · exact h0
    · exact h1
    · exact h2
    · exact h3
    · exact h4
    · exact h5
    · exact h6
    · exact h7
  · show ask s ((oneL).zipIdx) 0 = none
    simp only [oneL, List.zipIdx_cons, List.zipIdx_nil, ask]
    rw [if_neg (show ¬ s = ⟨#[43]⟩ from h0), if_neg (show ¬ s = ⟨#[45]⟩ from h1), if_neg (show ¬ s = ⟨#[195, 151]⟩ from h2), if_neg (show ¬ s = ⟨#[195, 183]⟩ from h3), if_neg (show ¬ s = ⟨#[226, 140, 136]⟩ from h4), if_neg (show ¬ s = ⟨#[226, 140, 138]⟩ from h5), if_neg (show ¬ s = ⟨#[124]⟩ from h6), if_neg (show ¬ s = ⟨#[126]⟩ from h7)]
theorem jud_ask (s : ByteArray) : (∃ k, 7 ≤ k ∧ k < 15 ∧ s = dyG k ∧ ∀ b, ∃ i, ask s (judL b).zipIdx 0 = some (i, judF b k)) ∨ ((∀ k, 7 ≤ k → k < 15 → s ≠ dyG k) ∧ ∀ b, ask s (judL b).zipIdx 0 = none) := by
  by_cases h7 : s = dyG 7
  · exact .inl ⟨7, by decide, by decide, h7, fun _ => ⟨0, by rw [h7]; rfl⟩⟩
  by_cases h8 : s = dyG 8
  · exact .inl ⟨8, by decide, by decide, h8, fun _ => ⟨1, by rw [h8]; rfl⟩⟩
  by_cases h9 : s = dyG 9
  · exact .inl ⟨9, by decide, by decide, h9, fun _ => ⟨2, by rw [h9]; rfl⟩⟩
  by_cases h10 : s = dyG 10
  · exact .inl ⟨10, by decide, by decide, h10, fun _ => ⟨3, by rw [h10]; rfl⟩⟩
  by_cases h11 : s = dyG 11
  · exact .inl ⟨11, by decide, by decide, h11, fun _ => ⟨4, by rw [h11]; rfl⟩⟩
  by_cases h12 : s = dyG 12
  · exact .inl ⟨12, by decide, by decide, h12, fun _ => ⟨5, by rw [h12]; rfl⟩⟩
  by_cases h13 : s = dyG 13
  · exact .inl ⟨13, by decide, by decide, h13, fun _ => ⟨6, by rw [h13]; rfl⟩⟩
  by_cases h14 : s = dyG 14
  · exact .inl ⟨14, by decide, by decide, h14, fun _ => ⟨7, by rw [h14]; rfl⟩⟩
  refine .inr ⟨fun k h0 hk => ?_, fun _ => ?_⟩
  · rcases (by omega : k = 7 ∨ k = 8 ∨ k = 9 ∨ k = 10 ∨ k = 11 ∨ k = 12 ∨ k = 13 ∨ k = 14) with rfl | rfl | rfl | rfl | rfl | rfl | rfl | rfl
    · exact h7
    · exact h8
    · exact h9
    · exact h10
    · exact h11
    · exact h12
    · exact h13
    · exact h14
  · show ask s ((judL _).zipIdx) 0 = none
    simp only [judL, List.zipIdx_cons, List.zipIdx_nil, ask]
    rw [if_neg (show ¬ s = ⟨#[61]⟩ from h7), if_neg (show ¬ s = ⟨#[226, 137, 160]⟩ from h8), if_neg (show ¬ s = ⟨#[60]⟩ from h9), if_neg (show ¬ s = ⟨#[62]⟩ from h10), if_neg (show ¬ s = ⟨#[226, 137, 164]⟩ from h11), if_neg (show ¬ s = ⟨#[226, 137, 165]⟩ from h12), if_neg (show ¬ s = ⟨#[226, 136, 167]⟩ from h13), if_neg (show ¬ s = ⟨#[226, 136, 168]⟩ from h14)]
theorem whichD_at {k : Nat} (h : k < 15) : whichD (dyG k) = k := by
  rcases (by omega : k = 0 ∨ k = 1 ∨ k = 2 ∨ k = 3 ∨ k = 4 ∨ k = 5 ∨ k = 6 ∨ k = 7 ∨ k = 8 ∨ k = 9 ∨ k = 10 ∨ k = 11 ∨ k = 12 ∨ k = 13 ∨ k = 14) with rfl | rfl | rfl | rfl | rfl | rfl | rfl | rfl | rfl | rfl | rfl | rfl | rfl | rfl | rfl <;> rfl
theorem whichM_at {k : Nat} (h : k < 8) : whichM (monG k) = k := by
  rcases (by omega : k = 0 ∨ k = 1 ∨ k = 2 ∨ k = 3 ∨ k = 4 ∨ k = 5 ∨ k = 6 ∨ k = 7) with rfl | rfl | rfl | rfl | rfl | rfl | rfl | rfl <;> rfl
theorem which_no (G : Nat → ByteArray) (g : ByteArray) : ∀ n i, (∀ k, i ≤ k → k < i + n → g ≠ G k) → whichG G g n i = i + n
  | 0, _, _ => rfl
  | n + 1, i, h => by
    simp only [whichG]
    rw [if_neg (h i (Nat.le_refl _) (by omega)), which_no G g n (i + 1) (fun k h0 h1 => h k (by omega) (by omega))]
    omega
theorem whichD_no {g : ByteArray} (h : ∀ k, k < 15 → g ≠ dyG k) : whichD g = 15 := by unfold whichD; rw [which_no dyG g 15 0 (fun k _ hk => h k (by omega))]
theorem whichM_no {g : ByteArray} (h : ∀ k, k < 8 → g ≠ monG k) : whichM g = 8 := by unfold whichM; rw [which_no monG g 8 0 (fun k _ hk => h k (by omega))]
theorem does_rec (a : Addr) (W : World) (k : Nat) (hk : k < 7) : Does a W (fnV (recF k)) In (dyN k) := by
  rcases (by omega : k = 0 ∨ k = 1 ∨ k = 2 ∨ k = 3 ∨ k = 4 ∨ k = 5 ∨ k = 6) with rfl | rfl | rfl | rfl | rfl | rfl | rfl
  · exact ⟨124, #[], rfl, .inl rfl, fun args w => enters_of Tryz.func124 (by kernel_rfl) rfl args w, fun x y W' _ _ hx hy => do_add a x y hx hy W'⟩
  · exact ⟨126, #[], rfl, .inl rfl, fun args w => enters_of Tryz.func126 (by kernel_rfl) rfl args w, fun x y W' _ _ hx hy => do_sub a x y hx hy W'⟩
  · exact ⟨128, #[], rfl, .inl rfl, fun args w => enters_of Tryz.func128 (by kernel_rfl) rfl args w, fun x y W' _ _ hx hy => do_mul a x y hx hy W'⟩
  · exact ⟨130, #[], rfl, .inl rfl, fun args w => enters_of Tryz.func130 (by kernel_rfl) rfl args w, fun x y W' _ _ hx hy => do_div a x y hx hy W'⟩
  · exact ⟨132, #[], rfl, .inl rfl, fun args w => enters_of Tryz.func132 (by kernel_rfl) rfl args w, fun x y W' _ _ _ _ => do_max a x y W'⟩
  · exact ⟨133, #[], rfl, .inl rfl, fun args w => enters_of Tryz.func133 (by kernel_rfl) rfl args w, fun x y W' _ _ _ _ => do_min a x y W'⟩
  · exact ⟨134, #[], rfl, .inl rfl, fun args w => enters_of Tryz.func134 (by kernel_rfl) rfl args w, fun x y W' _ _ hx hy => do_res a x y hx hy W'⟩
theorem does_one (a : Addr) (W : World) (k : Nat) (hk : k < 8) : Does a W (fnV (oneF k)) (fun x => x = 0) (fun _ y => monN k y) := by
  rcases (by omega : k = 0 ∨ k = 1 ∨ k = 2 ∨ k = 3 ∨ k = 4 ∨ k = 5 ∨ k = 6 ∨ k = 7) with rfl | rfl | rfl | rfl | rfl | rfl | rfl | rfl
  · exact ⟨89, #[], rfl, .inl rfl, fun args w => enters_of Tryz.func89 (by kernel_rfl) rfl args w, fun x y W' _ _ _ _ => do_same a x y W'⟩
  · exact ⟨90, #[], rfl, .inl rfl, fun args w => enters_of Tryz.func90 (by kernel_rfl) rfl args w, fun x y W' _ _ _ hy => do_neg a x y hy W'⟩
  · exact ⟨93, #[], rfl, .inl rfl, fun args w => enters_of Tryz.func93 (by kernel_rfl) rfl args w, fun x y W' _ _ _ _ => do_sign a x y W'⟩
  · exact ⟨95, #[], rfl, .inl rfl, fun args w => enters_of Tryz.func95 (by kernel_rfl) rfl args w, fun x y W' _ _ hx hy => by subst hx; exact do_inv a y hy W'⟩
  · exact ⟨89, #[], rfl, .inl rfl, fun args w => enters_of Tryz.func89 (by kernel_rfl) rfl args w, fun x y W' _ _ _ _ => do_same a x y W'⟩
  · exact ⟨89, #[], rfl, .inl rfl, fun args w => enters_of Tryz.func89 (by kernel_rfl) rfl args w, fun x y W' _ _ _ _ => do_same a x y W'⟩
  · exact ⟨98, #[], rfl, .inl rfl, fun args w => enters_of Tryz.func98 (by kernel_rfl) rfl args w, fun x y W' _ _ _ hy => do_abs a x y hy W'⟩
  · exact ⟨99, #[], rfl, .inl rfl, fun args w => enters_of Tryz.func99 (by kernel_rfl) rfl args w, fun x y W' _ hE hx _ => by subst hx; exact do_not a y W' hE⟩
theorem does_jud (a : Addr) (W : World) (b : Nat → Nat) (k : Nat) (h0 : 7 ≤ k) (hk : k < 15) (hb : ∀ k, 7 ≤ k → k < 13 → b k < W.heap.size ∧ W.cell? ⟨b k, 0, none⟩ = some (.string (dyG k))) : Does a W (judF b k) In (dyN k) := by
  rcases (by omega : k = 7 ∨ k = 8 ∨ k = 9 ∨ k = 10 ∨ k = 11 ∨ k = 12 ∨ k = 13 ∨ k = 14) with rfl | rfl | rfl | rfl | rfl | rfl | rfl | rfl
  · obtain ⟨hl, hc⟩ := hb 7 (by decide) (by decide)
    exact ⟨154, _, rfl, .inr ⟨_, rfl⟩, fun args w => enters_of Tryz.func154 (by kernel_rfl) rfl args w, fun x y W' hB _ _ _ => do_cmp a x y (dyG 7) (decide (x = y)) (b 7) W' ((hB.cell (p := ⟨b 7, 0, none⟩) hl).trans hc) (Nat.lt_of_lt_of_le hl hB.size) (fun W2 => holds_7 x y W2)⟩
  · obtain ⟨hl, hc⟩ := hb 8 (by decide) (by decide)
    exact ⟨154, _, rfl, .inr ⟨_, rfl⟩, fun args w => enters_of Tryz.func154 (by kernel_rfl) rfl args w, fun x y W' hB _ _ _ => do_cmp a x y (dyG 8) (decide (x ≠ y)) (b 8) W' ((hB.cell (p := ⟨b 8, 0, none⟩) hl).trans hc) (Nat.lt_of_lt_of_le hl hB.size) (fun W2 => holds_8 x y W2)⟩
  · obtain ⟨hl, hc⟩ := hb 9 (by decide) (by decide)
    exact ⟨154, _, rfl, .inr ⟨_, rfl⟩, fun args w => enters_of Tryz.func154 (by kernel_rfl) rfl args w, fun x y W' hB _ _ _ => do_cmp a x y (dyG 9) (decide (x < y)) (b 9) W' ((hB.cell (p := ⟨b 9, 0, none⟩) hl).trans hc) (Nat.lt_of_lt_of_le hl hB.size) (fun W2 => holds_9 x y W2)⟩
  · obtain ⟨hl, hc⟩ := hb 10 (by decide) (by decide)
    exact ⟨154, _, rfl, .inr ⟨_, rfl⟩, fun args w => enters_of Tryz.func154 (by kernel_rfl) rfl args w, fun x y W' hB _ _ _ => do_cmp a x y (dyG 10) (decide (y < x)) (b 10) W' ((hB.cell (p := ⟨b 10, 0, none⟩) hl).trans hc) (Nat.lt_of_lt_of_le hl hB.size) (fun W2 => holds_10 x y W2)⟩
  · obtain ⟨hl, hc⟩ := hb 11 (by decide) (by decide)
    exact ⟨154, _, rfl, .inr ⟨_, rfl⟩, fun args w => enters_of Tryz.func154 (by kernel_rfl) rfl args w, fun x y W' hB _ _ _ => do_cmp a x y (dyG 11) (decide (x ≤ y)) (b 11) W' ((hB.cell (p := ⟨b 11, 0, none⟩) hl).trans hc) (Nat.lt_of_lt_of_le hl hB.size) (fun W2 => holds_11 x y W2)⟩
  · obtain ⟨hl, hc⟩ := hb 12 (by decide) (by decide)
    exact ⟨154, _, rfl, .inr ⟨_, rfl⟩, fun args w => enters_of Tryz.func154 (by kernel_rfl) rfl args w, fun x y W' hB _ _ _ => do_cmp a x y (dyG 12) (decide (y ≤ x)) (b 12) W' ((hB.cell (p := ⟨b 12, 0, none⟩) hl).trans hc) (Nat.lt_of_lt_of_le hl hB.size) (fun W2 => holds_12 x y W2)⟩
  · exact ⟨137, #[], rfl, .inl rfl, fun args w => enters_of Tryz.func137 (by kernel_rfl) rfl args w, fun x y W' _ hE _ _ => do_and a x y W' hE⟩
  · exact ⟨138, #[], rfl, .inl rfl, fun args w => enters_of Tryz.func138 (by kernel_rfl) rfl args w, fun x y W' _ hE _ _ => do_or a x y W' hE⟩
theorem Does.below {a : Addr} {W W' : World} {fv : Value} {X : Int → Prop} {N : Int → Int → Int × Int} (h : Does a W fv X N) (hb : Below W.heap.size W W') : Does a W' fv X N := by
  obtain ⟨f, cap, h1, h2, h3, h4⟩ := h
  exact ⟨f, cap, h1, h2, h3, fun x y W2 hb2 => h4 x y W2 (hb.trans (hb2.mono hb.size))⟩
/-- What a finder answers. -/
def Found (a : Addr) (ok : Bool) (X : Int → Prop) (N : Int → Int → Int × Int) (w : World) (e : Ending) (w' : World) : Prop := ∃ fv, e = .returned (.tuple #[fv, .bool ok]) ∧ (ok = true → Does a w' fv X N) ∧ Below w.heap.size w w'
theorem find1_c (a : Addr) (g : ByteArray) (w : World) : Calls Tryz.prog 61 #[.string g] w fun e w' => Found a (decide (whichM g < 8)) (fun x => x = 0) (fun _ y => monN (whichM g) y) w e w' := by
  refine (ofOne_c g w).mono ?_
  rintro e w' ⟨rfl, hb⟩
  rcases one_ask g with ⟨k, hk, rfl, h⟩ | ⟨hn, h⟩
  · obtain ⟨i, hi⟩ := h ()
    rw [hi, whichM_at hk]
    exact ⟨_, by rw [decide_eq_true hk]; rfl, fun _ => does_one a w' k hk, hb⟩
  · rw [h (), whichM_no hn]
    exact ⟨_, rfl, fun h => absurd h (by decide), hb⟩
set_option maxRecDepth 100000 in
theorem find2_c (a : Addr) (g : ByteArray) (w : World) : Calls Tryz.prog 71 #[.string g] w fun e w' => Found a (decide (whichD g < 15)) In (dyN (whichD g)) w e w' := by
  have HR := Lib.hid (reckoner_c g w)
  rcases rec_ask g with ⟨k, hk, hg, h⟩ | ⟨hn, h⟩
  · obtain ⟨i, hi⟩ := h ()
    rw [hi] at HR
    have hw : whichD g = k := by rw [hg]; exact whichD_at (by omega)
    rw [hw, decide_eq_true (by omega : k < 15)]
    have HD := Lib.hid (fun W => does_rec a W k hk)
    obtain ⟨fv, hfv⟩ : ∃ fv, fv = fnV (recF k) := ⟨_, rfl⟩
    have e1 : fvOf (some (i, fnV (recF k))) = fv := hfv.symm
    have e2 : okOf (some (i, fnV (recF k))) = true := rfl
    rw [e1, e2] at HR
    rw [← hfv] at HD
    clear e1 e2 hfv hi h hg hw
    go_enter Tryz.func71, Tryz.ntmps71
    go_wp2_with (go_at_call 107; refine HR.out.mono ?_; rintro e w1 ⟨rfl, hb1⟩; have HB1 := Lib.hid hb1; clear hb1)
    go_ret2
    exact ⟨_, rfl, fun _ => HD.out _, HB1.out⟩
  · rw [h ()] at HR
    have e1 : fvOf none = .nilFunc := rfl
    have e2 : okOf none = false := rfl
    rw [e1, e2] at HR
    have HJ := Lib.hid (fun W => judge_c g W)
    have hj : ∃ ok, ok = decide (whichD g < 15) ∧ (∀ b, okOf (ask g (judL b).zipIdx 0) = ok) ∧ (ok = true → ∀ b W, (∀ k, 7 ≤ k → k < 13 → b k < W.heap.size ∧ W.cell? ⟨b k, 0, none⟩ = some (.string (dyG k))) → Does a W (fvOf (ask g (judL b).zipIdx 0)) In (dyN (whichD g))) := by
      rcases jud_ask g with ⟨k, h7, hk, hg, h⟩ | ⟨hn2, h⟩
      · have hw : whichD g = k := by rw [hg]; exact whichD_at hk
        refine ⟨true, by rw [hw, decide_eq_true hk], fun b => ?_, fun _ b W hb => ?_⟩
        · obtain ⟨i, hi⟩ := h b
          rw [hi]
          rfl
        · obtain ⟨i, hi⟩ := h b
          rw [hi, hw]
          exact does_jud a W b k h7 hk hb
      · have hw : whichD g = 15 := whichD_no (fun k hk => by
          rcases Nat.lt_or_ge k 7 with h7 | h7
          · exact hn k h7
          · exact hn2 k h7 hk)
        exact ⟨false, by rw [hw]; rfl, fun b => by rw [h b]; rfl, fun h => by cases h⟩
    obtain ⟨ok, hok, ho1, ho2⟩ := hj
    rw [← hok]
    have HO1 := Lib.hid ho1
    have HO2 := Lib.hid ho2
    clear hok ho1 ho2 h hn e1 e2
    go_enter Tryz.func71, Tryz.ntmps71
    go_wp2_with (go_at_call 107; refine HR.out.mono ?_; rintro e w1 ⟨rfl, hb1⟩; have HB1 := Lib.hid hb1; clear hb1)
    refine (HJ.out _).mono ?_
    rintro e w2 ⟨b, rfl, hs, hb2⟩
    have HS := Lib.hid (And.intro hs hb2)
    have e3 := HO1.out b
    obtain ⟨fv, hfv⟩ : ∃ fv, fv = fvOf (ask g (judL b).zipIdx 0) := ⟨_, rfl⟩
    rw [e3, ← hfv]
    have HFV := Lib.hid hfv
    clear hs hb2 e3 hfv
    go_wp2
    go_ret2
    exact ⟨_, rfl, fun h => by rw [HFV.out]; exact HO2.out h b _ HS.out.1, HB1.out.trans (HS.out.2.mono HB1.out.size)⟩
end Go.Proofs.YthlkgfplffdiaaaGreatDoor.Nu
/- Number's calls (by wip/gen/mknudy.py). -/
namespace Go.Proofs.YthlkgfplffdiaaaGreatDoor.Nu
open Go Go.RowKit Go.Shelf
attribute [local go_sem] Oper.semAt_some

/-- What apply answers. -/
def Told (a : Addr) (N : Int × Int) (w : World) (e : Ending) (w' : World) : Prop := ∃ v, e = .returned (.tuple #[.int .i64 N.1, v]) ∧ ErrV a v N.2 ∧ Below w.heap.size w w'
theorem ErrV.of {a : Addr} {v : Value} {c : Int} (h : FailV a v c) (g : ByteArray) : (v = .nilIface ∧ ErrV a .nilIface c) ∨ (∃ t z, v = .iface t z ∧ ErrV a (wrongV g (.iface t z)) c) := by
  rcases h with ⟨rfl, rfl⟩ | ⟨rfl, rfl⟩ | ⟨h1, h2, rfl⟩
  · exact .inl ⟨rfl, .inl ⟨rfl, rfl⟩⟩
  · exact .inr ⟨_, _, rfl, .inr ⟨g, .inl ⟨rfl, rfl⟩⟩⟩
  · exact .inr ⟨_, _, rfl, .inr ⟨g, .inr ⟨h1, h2, rfl⟩⟩⟩
set_option maxRecDepth 100000 in
set_option maxHeartbeats 2000000 in
theorem apply_c (a : Addr) (F : Nat) (eF : ∀ args w, (callFunc F args).run Tryz.prog w = .ok (.enter F args) w) (g : ByteArray) (ok : Bool) (X : Int → Prop) (N : Int → Int → Int × Int) (x y : Int) (w : World) (hE : ES w a) (hx : X x) (hy : In y) (hF : ∀ W, Calls Tryz.prog F #[.string g] W fun e w' => Found a ok X N W e w') : Calls Tryz.prog 64 #[fnV F, .string g, pairV x y] w fun e w' => Told a (if ok then N x y else (0, 102)) w e w' := by
  have hb0 := (Below.refl w.heap.size w).alloc (Nat.le_refl _) (.cells #[.int .i64 x, .int .i64 y] 95)
  have HB := Lib.hid hb0
  have HF := Lib.hid (hF (w.alloc (.cells #[.int .i64 x, .int .i64 y] 95)))
  have HE := Lib.hid (hE.below hb0)
  have HCE : Hid (∀ W, Below (w.alloc (.cells #[.int .i64 x, .int .i64 y] 95)).heap.size (w.alloc (.cells #[.int .i64 x, .int .i64 y] 95)) W → W.cell? ⟨w.heap.size, 0, none⟩ = some (.int .i64 x) ∧ W.cell? ⟨w.heap.size, 1, none⟩ = some (.int .i64 y)) := Lib.hid (fun W h => ⟨(h.cell (p := ⟨w.heap.size, 0, none⟩) (by simp)).trans (by simp), (h.cell (p := ⟨w.heap.size, 1, none⟩) (by simp)).trans (by simp)⟩)
  clear hb0 hF hE
  cases ok
  · simp only [Bool.false_eq_true, if_false]
    go_enter Tryz.func64, Tryz.ntmps64
    go_wp2_with fail
    go_at_fn F
    refine HF.out.mono ?_
    rintro e w1 ⟨fv, rfl, -, hb1⟩
    have HB1 := Lib.hid (HB.out.trans (hb1.mono HB.out.size))
    have hE1 := HE.out.below hb1
    have e1 := hE1.1
    have e2 := hE1.2
    clear hE1 hb1
    go_wp2_with fail
    go_region_held_law (fun w' => w'.cell? ⟨1, 0, none⟩ = some (errV a)) (go_keep) (fail)
    all_goals go_wp2
    all_goals go_ret2
    all_goals exact ⟨_, rfl, .inr ⟨g, .inl ⟨rfl, rfl⟩⟩, HB1.out.drew⟩
  · simp only [if_true]
    have HX := Lib.hid (And.intro hx hy)
    clear hx hy
    obtain ⟨M, hM⟩ : ∃ M, M = N x y := ⟨_, rfl⟩
    have HM := Lib.hid hM
    rw [← hM]
    clear hM
    go_enter Tryz.func64, Tryz.ntmps64
    go_wp2_with fail
    go_at_fn F
    refine HF.out.mono ?_
    rintro e w1 ⟨fv, rfl, hd, hb1⟩
    have HB1 := Lib.hid (HB.out.trans (hb1.mono HB.out.size))
    have HE1 := Lib.hid (HE.out.below hb1)
    obtain ⟨k0, k1⟩ := HCE.out w1 hb1
    obtain ⟨f, cap, rfl, hcap, ef, hc⟩ := hd rfl
    have hc1 := hc x y w1 (Below.refl _ _) HE1.out HX.out.1 HX.out.2
    rw [← HM.out] at hc1
    clear hd hb1 hc
    rcases hcap with rfl | ⟨p, rfl⟩
    · have HC : Hid (Calls Tryz.prog f #[chkV x y] w1 fun e w' => Out a M w1 e w') := Lib.hid hc1
      clear hc1
      go_wp2_with fail
      go_at_fn f
      refine HC.out.mono ?_
      rintro e w2 ⟨v, rfl, hv, hb2⟩
      have HB2 := Lib.hid (HB1.out.trans (hb2.mono HB1.out.size))
      clear hb2
      rcases ErrV.of hv g with ⟨rfl, h⟩ | ⟨t, z, rfl, h⟩
      · have HV := Lib.hid h
        clear hv h
        go_wp2
        go_ret2
        exact ⟨_, rfl, HV.out, HB2.out⟩
      · have HV := Lib.hid h
        clear hv h
        go_wp2
        go_ret2
        exact ⟨_, rfl, HV.out, HB2.out⟩
    · have HC : Hid (Calls Tryz.prog f #[chkV x y, .pointer (some p)] w1 fun e w' => Out a M w1 e w') := Lib.hid hc1
      clear hc1
      go_wp2_with fail
      go_at_fn f
      refine HC.out.mono ?_
      rintro e w2 ⟨v, rfl, hv, hb2⟩
      have HB2 := Lib.hid (HB1.out.trans (hb2.mono HB1.out.size))
      clear hb2
      rcases ErrV.of hv g with ⟨rfl, h⟩ | ⟨t, z, rfl, h⟩
      · have HV := Lib.hid h
        clear hv h
        go_wp2
        go_ret2
        exact ⟨_, rfl, HV.out, HB2.out⟩
      · have HV := Lib.hid h
        clear hv h
        go_wp2
        go_ret2
        exact ⟨_, rfl, HV.out, HB2.out⟩
end Go.Proofs.YthlkgfplffdiaaaGreatDoor.Nu
/- Number's exported calls (by wip/gen/mknucall.py). -/
namespace Go.Proofs.YthlkgfplffdiaaaGreatDoor.Nu
open Go Go.RowKit Go.Shelf
attribute [local go_sem] Oper.semAt_some

/-- The ground: number's sentinel, and the type of errors, lie. -/
def NG (w : World) : Prop := (∃ a, ES w a) ∧ ErrT w
theorem NG.below {w w' : World} (h : NG w) (hb : Below w.heap.size w w') : NG w' := ⟨h.1.imp fun _ he => he.below hb, h.2.below hb h.2.2⟩
/-- The pair that a call answers. -/
abbrev numV (N : Int × Int) : Value := .tuple #[.int .i64 N.1, .int .i64 N.2]
theorem dyN_no (x y : Int) : dyN 15 x y = (0, 102) := rfl
theorem whichG_le (G : Nat → ByteArray) (g : ByteArray) : ∀ n i, whichG G g n i ≤ i + n
  | 0, _ => Nat.le_refl _
  | n + 1, i => by
    simp only [whichG]
    split
    · omega
    · have := whichG_le G g n (i + 1)
      omega
theorem dy_find (g : ByteArray) (x y : Int) : (if decide (whichD g < 15) then dyN (whichD g) x y else (0, 102)) = dyN (whichD g) x y := by
  by_cases h : whichD g < 15
  · rw [decide_eq_true h]; rfl
  · have := whichG_le dyG g 15 0
    have h2 : whichD g = 15 := by unfold whichD at h ⊢; omega
    rw [h2]
    rfl
theorem mon_find (g : ByteArray) (y : Int) : (if decide (whichM g < 8) then monN (whichM g) y else (0, 102)) = monN (whichM g) y := by
  by_cases h : whichM g < 8
  · rw [decide_eq_true h]; rfl
  · have := whichG_le monG g 8 0
    have h2 : whichM g = 8 := by unfold whichM at h ⊢; omega
    rw [h2]
    rfl
set_option maxRecDepth 100000 in
theorem dy_c (g : ByteArray) (x y : Int) (hx : In x) (hy : In y) (w : World) (hG : NG w) : Calls Tryz.prog 73 #[.string g, .int .i64 x, .int .i64 y] w fun e w' => e = .returned (numV (dyN (whichD g) x y)) ∧ Below w.heap.size w w' := by
  obtain ⟨⟨a, hE⟩, hT⟩ := hG
  have ha := apply_c a 71 (fun args w => enters_of Tryz.func71 (by kernel_rfl) rfl args w) g (decide (whichD g < 15)) In (dyN (whichD g)) x y w hE hx hy (fun W => find2_c a g W)
  rw [dy_find] at ha
  have HA := Lib.hid ha
  have HE := Lib.hid (And.intro hE hT)
  obtain ⟨N, hN⟩ : ∃ N, N = dyN (whichD g) x y := ⟨_, rfl⟩
  rw [← hN] at HA ⊢
  clear hN ha hE hT
  go_enter Tryz.func73, Tryz.ntmps73
  go_wp2_with fail
  refine HA.out.mono ?_
  rintro e w1 ⟨v, rfl, hv, hb1⟩
  have HC := Lib.hid (told_c a v N.2 w1 (HE.out.1.below hb1) (HE.out.2.below hb1 HE.out.2.2) hv)
  have HB1 := Lib.hid hb1
  clear hb1 hv
  go_wp2_with fail
  refine HC.out.mono ?_
  rintro e w2 ⟨rfl, hb2⟩
  have HB2 := Lib.hid hb2
  clear hb2
  go_wp2
  go_ret2
  exact ⟨rfl, HB1.out.trans (HB2.out.mono HB1.out.size)⟩
set_option maxRecDepth 100000 in
theorem mon_c (g : ByteArray) (y : Int) (hy : In y) (w : World) (hG : NG w) : Calls Tryz.prog 40 #[.string g, .int .i64 y] w fun e w' => e = .returned (numV (monN (whichM g) y)) ∧ Below w.heap.size w w' := by
  obtain ⟨⟨a, hE⟩, hT⟩ := hG
  have ha := apply_c a 61 (fun args w => enters_of Tryz.func61 (by kernel_rfl) rfl args w) g (decide (whichM g < 8)) (fun x => x = 0) (fun _ y => monN (whichM g) y) 0 y w hE rfl hy (fun W => find1_c a g W)
  rw [mon_find] at ha
  have HA := Lib.hid ha
  have HE := Lib.hid (And.intro hE hT)
  obtain ⟨N, hN⟩ : ∃ N, N = monN (whichM g) y := ⟨_, rfl⟩
  rw [← hN] at HA ⊢
  clear hN ha hE hT
  go_enter Tryz.func40, Tryz.ntmps40
  go_wp2_with fail
  refine HA.out.mono ?_
  rintro e w1 ⟨v, rfl, hv, hb1⟩
  have HC := Lib.hid (told_c a v N.2 w1 (HE.out.1.below hb1) (HE.out.2.below hb1 HE.out.2.2) hv)
  have HB1 := Lib.hid hb1
  clear hb1 hv
  go_wp2_with fail
  refine HC.out.mono ?_
  rintro e w2 ⟨rfl, hb2⟩
  have HB2 := Lib.hid hb2
  clear hb2
  go_wp2
  go_ret2
  exact ⟨rfl, HB1.out.trans (HB2.out.mono HB1.out.size)⟩
set_option maxRecDepth 100000 in
theorem isDy_c (g : ByteArray) (w : World) : Calls Tryz.prog 47 #[.string g] w fun e w' => e = .returned (.bool (decide (whichD g < 15))) ∧ Below w.heap.size w w' := by
  have HF := Lib.hid (fun W => find2_c ⟨0, 0, none⟩ g W)
  obtain ⟨ok, hok⟩ : ∃ ok, ok = decide (whichD g < 15) := ⟨_, rfl⟩
  rw [← hok] at HF ⊢
  clear hok
  go_enter Tryz.func47, Tryz.ntmps47
  go_wp2_with fail
  refine (HF.out _).mono ?_
  rintro e w1 ⟨fv, rfl, -, hb1⟩
  have HB1 := Lib.hid hb1
  clear hb1
  go_wp2
  go_ret
  exact ⟨rfl, HB1.out⟩
set_option maxRecDepth 100000 in
theorem isMon_c (g : ByteArray) (w : World) : Calls Tryz.prog 36 #[.string g] w fun e w' => e = .returned (.bool (decide (whichM g < 8))) ∧ Below w.heap.size w w' := by
  have HF := Lib.hid (fun W => find1_c ⟨0, 0, none⟩ g W)
  obtain ⟨ok, hok⟩ : ∃ ok, ok = decide (whichM g < 8) := ⟨_, rfl⟩
  rw [← hok] at HF ⊢
  clear hok
  go_enter Tryz.func36, Tryz.ntmps36
  go_wp2_with fail
  refine (HF.out _).mono ?_
  rintro e w1 ⟨fv, rfl, -, hb1⟩
  have HB1 := Lib.hid hb1
  clear hb1
  go_wp2
  go_ret
  exact ⟨rfl, HB1.out⟩
theorem which_is (G : Nat → ByteArray) (g : ByteArray) : ∀ n i k, whichG G g n i = k → k < i + n → g = G k
  | 0, i, k, h, hk => by simp only [whichG] at h; omega
  | n + 1, i, k, h, hk => by
    simp only [whichG] at h
    split at h
    · rename_i e
      rw [← h]
      exact e
    · exact which_is G g n (i + 1) k h (by omega)
/-- What changes nothing. -/
def unitN (k : Nat) : Int × Bool := match k with
  | 0 => (0, true)
  | 2 => (1, true)
  | 13 => (1, true)
  | 14 => (0, true)
  | _ => (0, false)
theorem str_eq {g : ByteArray} {l : List UInt8} (h : g = ⟨l.toArray⟩) : (g.toList == l) = true := by subst h; simp [ByteArray.toList_eq]
theorem str_ne {g : ByteArray} {l : List UInt8} (h : g ≠ ⟨l.toArray⟩) : (g.toList == l) = false := by
  rw [ByteArray.toList_eq, Bool.eq_false_iff]
  intro e
  have e := eq_of_beq e
  exact h (by cases g; simp at e; simp [← e])
end Go.Proofs.YthlkgfplffdiaaaGreatDoor.Nu
/- What the laws begin with: shown; calls at given numbers (by wip/gen/mknulaws.py). -/
namespace Go.Proofs.YthlkgfplffdiaaaGreatDoor.Nu
open Go Go.RowKit Go.Shelf
attribute [local go_sem] Oper.semAt_some

theorem dy_at (k : Nat) (g : ByteArray) (hg : whichD g = k) (x y : Int) (hx : In x) (hy : In y) (s e : Int) (hN : dyN k x y = (s, e)) (w : World) (h : NG w) : Calls Tryz.prog 73 #[.string g, .int .i64 x, .int .i64 y] w fun v w' => v = .returned (.tuple #[.int .i64 s, .int .i64 e]) ∧ Below w.heap.size w w' := by
  have hc := dy_c g x y hx hy w h
  rw [hg, hN] at hc
  exact hc
theorem mon_at (k : Nat) (g : ByteArray) (hg : whichM g = k) (y : Int) (hy : In y) (s e : Int) (hN : monN k y = (s, e)) (w : World) (h : NG w) : Calls Tryz.prog 40 #[.string g, .int .i64 y] w fun v w' => v = .returned (.tuple #[.int .i64 s, .int .i64 e]) ∧ Below w.heap.size w w' := by
  have hc := mon_c g y hy w h
  rw [hg, hN] at hc
  exact hc
theorem ovr_in (n : Int) : In (ovr n).1 := by unfold ovr; split <;> omega
theorem divR_in (x y : Int) : In (divR x y).1 := by
  unfold divR
  split
  · split <;> decide
  · split
    · exact ovr_in _
    · decide
theorem bitsR_in (x y n : Int) (hn : In n) : In (bitsR x y n).1 := by
  unfold bitsR
  split
  · exact hn
  · decide
theorem bit_in (b : Bool) : In (bit b) := by cases b <;> decide
theorem fmod_in (x y : Int) (hx : x ≠ 0) (h : In x) : In (y.fmod x) := by
  rcases Int.lt_or_lt_of_ne hx with hn | hp
  · have h1 := Int.fmod_nonneg_of_pos (-y) (show 0 < -x by omega)
    have h2 := Int.fmod_lt_of_pos (-y) (show 0 < -x by omega)
    rw [Int.neg_fmod_neg] at h1 h2
    omega
  · have h1 := Int.fmod_nonneg_of_pos y hp
    have h2 := Int.fmod_lt_of_pos y hp
    omega
theorem resR_in (x y : Int) (hx : In x) (hy : In y) : In (resR x y) := by
  unfold resR
  split
  · exact hy
  · rename_i h
    exact fmod_in x y h hx
theorem dyN_in (k : Nat) (x y : Int) (hx : In x) (hy : In y) : In (dyN k x y).1 := by
  match k with
  | 0 => exact ovr_in _
  | 1 => exact ovr_in _
  | 2 => exact ovr_in _
  | 3 => exact divR_in x y
  | 4 => show In (max x y); omega
  | 5 => show In (min x y); omega
  | 6 => exact resR_in x y hx hy
  | 7 | 8 | 9 | 10 | 11 | 12 => exact bit_in _
  | 13 => exact bitsR_in x y _ (by omega)
  | 14 => exact bitsR_in x y _ (by omega)
  | n + 15 => show In 0; decide
theorem monN_in (k : Nat) (y : Int) (hy : In y) : In (monN k y).1 := by
  match k with
  | 0 | 4 | 5 => exact hy
  | 1 | 6 => exact ovr_in _
  | 2 =>
    show In y.sign
    rcases Int.lt_trichotomy y 0 with h | h | h
    · rw [Int.sign_eq_neg_one_of_neg h]; decide
    · rw [h]; decide
    · rw [Int.sign_eq_one_of_pos h]; decide
  | 3 => exact divR_in 1 y
  | 7 =>
    show In (notR y).1
    unfold notR
    split
    · rename_i h
      rcases isB_cases h with rfl | rfl <;> decide
    · decide
  | n + 8 => show In 0; decide
end Go.Proofs.YthlkgfplffdiaaaGreatDoor.Nu
