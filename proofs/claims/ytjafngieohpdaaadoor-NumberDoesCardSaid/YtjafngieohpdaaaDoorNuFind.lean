/- Number's finders: the function of a glyph, in maps (by wip/gen/mknufind.py). -/
import Derived.Test.YtjafngieohpdaaaDoorNuMap
import Derived.Test.YtjafngieohpdaaaDoorNuDo1
import Derived.Test.YtjafngieohpdaaaDoorNuDo2
import Derived.Test.YtjafngieohpdaaaDoorNuDo4
namespace Go.Proofs.YtjafngieohpdaaaDoor.Nu
open Go Go.RowKit Go.Shelf
attribute [local go_sem] Oper.semAt_some

def fvOf (r : Option (Nat × Value)) : Value := match r with
  | some x => x.2
  | none => .nilFunc
def okOf (r : Option (Nat × Value)) : Bool := match r with
  | some _ => true
  | none => false
theorem ansF_eq (r : Option (Nat × Value)) : ansF r = .tuple #[fvOf r, .bool (okOf r)] := by cases r <;> rfl
def recL : List (ByteArray × Value) := [(⟨#[43]⟩, fnV 50), (⟨#[45]⟩, fnV 52), (⟨#[195, 151]⟩, fnV 54), (⟨#[195, 183]⟩, fnV 56), (⟨#[226, 140, 136]⟩, fnV 58), (⟨#[226, 140, 138]⟩, fnV 59), (⟨#[124]⟩, fnV 60)]
set_option maxRecDepth 100000 in
set_option maxHeartbeats 2000000 in
theorem reckoner_c (s : ByteArray) (w : World) : Calls Tryd.prog 33 #[.string s] w fun e w' => e = .returned (.tuple #[fvOf (ask s recL.zipIdx 0), .bool (okOf (ask s recL.zipIdx 0))]) ∧ Below w.heap.size w w' := by
  have hmm : (Instr.makeMap 62 none).run Tryd.prog w = .ok (.map (some w.heap.size)) (w.alloc (.map #[] 0)) := run_makeMap _ w
  have h0 := new_map w
  have b0 : Below w.heap.size w (w.alloc (.map #[] 0)) := (Below.refl _ w).alloc (Nat.le_refl _) _
  obtain ⟨B1, r1, h1, c1, -⟩ := ins_map h0 ⟨#[43]⟩ (fnV 50) rfl
  have b1 := b0.trans (c1 w.heap.size (Nat.le_refl _))
  obtain ⟨B2, r2, h2, c2, -⟩ := ins_map h1 ⟨#[45]⟩ (fnV 52) rfl
  have b2 := b1.trans (c2 w.heap.size (Nat.le_refl _))
  obtain ⟨B3, r3, h3, c3, -⟩ := ins_map h2 ⟨#[195, 151]⟩ (fnV 54) rfl
  have b3 := b2.trans (c3 w.heap.size (Nat.le_refl _))
  obtain ⟨B4, r4, h4, c4, -⟩ := ins_map h3 ⟨#[195, 183]⟩ (fnV 56) rfl
  have b4 := b3.trans (c4 w.heap.size (Nat.le_refl _))
  obtain ⟨B5, r5, h5, c5, -⟩ := ins_map h4 ⟨#[226, 140, 136]⟩ (fnV 58) rfl
  have b5 := b4.trans (c5 w.heap.size (Nat.le_refl _))
  obtain ⟨B6, r6, h6, c6, -⟩ := ins_map h5 ⟨#[226, 140, 138]⟩ (fnV 59) rfl
  have b6 := b5.trans (c6 w.heap.size (Nat.le_refl _))
  obtain ⟨B7, r7, h7, c7, -⟩ := ins_map h6 ⟨#[124]⟩ (fnV 60) rfl
  have b7 := b6.trans (c7 w.heap.size (Nat.le_refl _))
  have hl := look_map h7 s
  have el : ask s (([] ++ [(⟨#[43]⟩, fnV 50)] ++ [(⟨#[45]⟩, fnV 52)] ++ [(⟨#[195, 151]⟩, fnV 54)] ++ [(⟨#[195, 183]⟩, fnV 56)] ++ [(⟨#[226, 140, 136]⟩, fnV 58)] ++ [(⟨#[226, 140, 138]⟩, fnV 59)] ++ [(⟨#[124]⟩, fnV 60)] : List (ByteArray × Value)).zipIdx) 0 = ask s recL.zipIdx 0 := rfl
  rw [el, ansF_eq] at hl
  obtain ⟨fv, hfv⟩ : ∃ fv, fv = fvOf (ask s recL.zipIdx 0) := ⟨_, rfl⟩
  obtain ⟨ok, hok⟩ : ∃ ok, ok = okOf (ask s recL.zipIdx 0) := ⟨_, rfl⟩
  rw [← hfv, ← hok] at hl ⊢
  have HB := Lib.hid b7
  clear hfv hok el h0 b0 h1 b1 h2 b2 h3 b3 h4 b4 h5 b5 h6 b6 h7 b7 c1 c2 c3 c4 c5 c6 c7
  go_enter Tryd.func33, Tryd.ntmps33
  go_wp2
  go_ret2
  exact ⟨rfl, HB.out⟩
def oneL : List (ByteArray × Value) := [(⟨#[43]⟩, fnV 38), (⟨#[45]⟩, fnV 39), (⟨#[195, 151]⟩, fnV 42), (⟨#[195, 183]⟩, fnV 44), (⟨#[226, 140, 136]⟩, fnV 38), (⟨#[226, 140, 138]⟩, fnV 38), (⟨#[124]⟩, fnV 47), (⟨#[126]⟩, fnV 48)]
set_option maxRecDepth 100000 in
set_option maxHeartbeats 2000000 in
theorem ofOne_c (s : ByteArray) (w : World) : Calls Tryd.prog 30 #[.string s] w fun e w' => e = .returned (.tuple #[fvOf (ask s oneL.zipIdx 0), .bool (okOf (ask s oneL.zipIdx 0))]) ∧ Below w.heap.size w w' := by
  have hmm : (Instr.makeMap 62 none).run Tryd.prog w = .ok (.map (some w.heap.size)) (w.alloc (.map #[] 0)) := run_makeMap _ w
  have h0 := new_map w
  have b0 : Below w.heap.size w (w.alloc (.map #[] 0)) := (Below.refl _ w).alloc (Nat.le_refl _) _
  obtain ⟨B1, r1, h1, c1, -⟩ := ins_map h0 ⟨#[43]⟩ (fnV 38) rfl
  have b1 := b0.trans (c1 w.heap.size (Nat.le_refl _))
  obtain ⟨B2, r2, h2, c2, -⟩ := ins_map h1 ⟨#[45]⟩ (fnV 39) rfl
  have b2 := b1.trans (c2 w.heap.size (Nat.le_refl _))
  obtain ⟨B3, r3, h3, c3, -⟩ := ins_map h2 ⟨#[195, 151]⟩ (fnV 42) rfl
  have b3 := b2.trans (c3 w.heap.size (Nat.le_refl _))
  obtain ⟨B4, r4, h4, c4, -⟩ := ins_map h3 ⟨#[195, 183]⟩ (fnV 44) rfl
  have b4 := b3.trans (c4 w.heap.size (Nat.le_refl _))
  obtain ⟨B5, r5, h5, c5, -⟩ := ins_map h4 ⟨#[226, 140, 136]⟩ (fnV 38) rfl
  have b5 := b4.trans (c5 w.heap.size (Nat.le_refl _))
  obtain ⟨B6, r6, h6, c6, -⟩ := ins_map h5 ⟨#[226, 140, 138]⟩ (fnV 38) rfl
  have b6 := b5.trans (c6 w.heap.size (Nat.le_refl _))
  obtain ⟨B7, r7, h7, c7, -⟩ := ins_map h6 ⟨#[124]⟩ (fnV 47) rfl
  have b7 := b6.trans (c7 w.heap.size (Nat.le_refl _))
  obtain ⟨B8, r8, h8, c8, -⟩ := ins_map h7 ⟨#[126]⟩ (fnV 48) rfl
  have b8 := b7.trans (c8 w.heap.size (Nat.le_refl _))
  have hl := look_map h8 s
  have el : ask s (([] ++ [(⟨#[43]⟩, fnV 38)] ++ [(⟨#[45]⟩, fnV 39)] ++ [(⟨#[195, 151]⟩, fnV 42)] ++ [(⟨#[195, 183]⟩, fnV 44)] ++ [(⟨#[226, 140, 136]⟩, fnV 38)] ++ [(⟨#[226, 140, 138]⟩, fnV 38)] ++ [(⟨#[124]⟩, fnV 47)] ++ [(⟨#[126]⟩, fnV 48)] : List (ByteArray × Value)).zipIdx) 0 = ask s oneL.zipIdx 0 := rfl
  rw [el, ansF_eq] at hl
  obtain ⟨fv, hfv⟩ : ∃ fv, fv = fvOf (ask s oneL.zipIdx 0) := ⟨_, rfl⟩
  obtain ⟨ok, hok⟩ : ∃ ok, ok = okOf (ask s oneL.zipIdx 0) := ⟨_, rfl⟩
  rw [← hfv, ← hok] at hl ⊢
  have HB := Lib.hid b8
  clear hfv hok el h0 b0 h1 b1 h2 b2 h3 b3 h4 b4 h5 b5 h6 b6 h7 b7 h8 b8 c1 c2 c3 c4 c5 c6 c7 c8
  go_enter Tryd.func30, Tryd.ntmps30
  go_wp2
  go_ret2
  exact ⟨rfl, HB.out⟩
/-- Judge's map: of six boxes. -/
def judL (b : Nat → Nat) : List (ByteArray × Value) := [(⟨#[61]⟩, cmpV (b 7)), (⟨#[226, 137, 160]⟩, cmpV (b 8)), (⟨#[60]⟩, cmpV (b 9)), (⟨#[62]⟩, cmpV (b 10)), (⟨#[226, 137, 164]⟩, cmpV (b 11)), (⟨#[226, 137, 165]⟩, cmpV (b 12)), (⟨#[226, 136, 167]⟩, fnV 63), (⟨#[226, 136, 168]⟩, fnV 64)]
set_option maxRecDepth 100000 in
set_option maxHeartbeats 4000000 in
theorem judge_c (s : ByteArray) (w : World) : Calls Tryd.prog 34 #[.string s] w fun e w' => ∃ b : Nat → Nat, e = .returned (.tuple #[fvOf (ask s (judL b).zipIdx 0), .bool (okOf (ask s (judL b).zipIdx 0))]) ∧ (∀ k, 7 ≤ k → k < 13 → b k < w'.heap.size ∧ w'.cell? ⟨b k, 0, none⟩ = some (.string (dyG k))) ∧ Below w.heap.size w w' := by
  have hmm : (Instr.makeMap 62 none).run Tryd.prog w = .ok (.map (some w.heap.size)) (w.alloc (.map #[] 0)) := run_makeMap _ w
  have h0 := new_map w
  have b0 : Below w.heap.size w (w.alloc (.map #[] 0)) := (Below.refl _ w).alloc (Nat.le_refl _) _
  have z0 : (w.alloc (.map #[] 0)).heap.size = w.heap.size + 1 := by simp
  have a1 : Below w.heap.size w ((w.alloc (.map #[] 0)).alloc (.cells #[.string ⟨#[61]⟩] 9)) := b0.alloc b0.size _
  have n1 : ((w.alloc (.map #[] 0)).alloc (.cells #[.string ⟨#[61]⟩] 9)).heap[(w.heap.size + 1)]? = some (.cells #[.string ⟨#[61]⟩] 9 (0, 0)) := by rw [← z0]; exact World.alloc_heap_new _ _
  have l1 : (w.heap.size + 1) ≠ w.heap.size ∧ (w.heap.size + 1) < ((w.alloc (.map #[] 0)).alloc (.cells #[.string ⟨#[61]⟩] 9)).heap.size := by rw [World.size_alloc, z0]; omega
  obtain ⟨B1, r1, h1, c1, k1⟩ := ins_map (h0.below ((Below.refl _ _).alloc (Nat.le_refl _) (.cells #[.string ⟨#[61]⟩] 9))) ⟨#[61]⟩ (cmpV (w.heap.size + 1)) rfl
  have b1 := a1.trans (c1 w.heap.size (Nat.le_refl _))
  have a2 : Below w.heap.size w (B1.alloc (.cells #[.string ⟨#[226, 137, 160]⟩] 9)) := b1.alloc b1.size _
  have n2 : (B1.alloc (.cells #[.string ⟨#[226, 137, 160]⟩] 9)).heap[B1.heap.size]? = some (.cells #[.string ⟨#[226, 137, 160]⟩] 9 (0, 0)) := by exact World.alloc_heap_new _ _
  have l2 : B1.heap.size ≠ w.heap.size ∧ B1.heap.size < (B1.alloc (.cells #[.string ⟨#[226, 137, 160]⟩] 9)).heap.size := by rw [World.size_alloc]; have := h1.lt; omega
  obtain ⟨B2, r2, h2, c2, k2⟩ := ins_map (h1.below ((Below.refl _ _).alloc (Nat.le_refl _) (.cells #[.string ⟨#[226, 137, 160]⟩] 9))) ⟨#[226, 137, 160]⟩ (cmpV B1.heap.size) rfl
  have b2 := a2.trans (c2 w.heap.size (Nat.le_refl _))
  have a3 : Below w.heap.size w (B2.alloc (.cells #[.string ⟨#[60]⟩] 9)) := b2.alloc b2.size _
  have n3 : (B2.alloc (.cells #[.string ⟨#[60]⟩] 9)).heap[B2.heap.size]? = some (.cells #[.string ⟨#[60]⟩] 9 (0, 0)) := by exact World.alloc_heap_new _ _
  have l3 : B2.heap.size ≠ w.heap.size ∧ B2.heap.size < (B2.alloc (.cells #[.string ⟨#[60]⟩] 9)).heap.size := by rw [World.size_alloc]; have := h2.lt; omega
  obtain ⟨B3, r3, h3, c3, k3⟩ := ins_map (h2.below ((Below.refl _ _).alloc (Nat.le_refl _) (.cells #[.string ⟨#[60]⟩] 9))) ⟨#[60]⟩ (cmpV B2.heap.size) rfl
  have b3 := a3.trans (c3 w.heap.size (Nat.le_refl _))
  have a4 : Below w.heap.size w (B3.alloc (.cells #[.string ⟨#[62]⟩] 9)) := b3.alloc b3.size _
  have n4 : (B3.alloc (.cells #[.string ⟨#[62]⟩] 9)).heap[B3.heap.size]? = some (.cells #[.string ⟨#[62]⟩] 9 (0, 0)) := by exact World.alloc_heap_new _ _
  have l4 : B3.heap.size ≠ w.heap.size ∧ B3.heap.size < (B3.alloc (.cells #[.string ⟨#[62]⟩] 9)).heap.size := by rw [World.size_alloc]; have := h3.lt; omega
  obtain ⟨B4, r4, h4, c4, k4⟩ := ins_map (h3.below ((Below.refl _ _).alloc (Nat.le_refl _) (.cells #[.string ⟨#[62]⟩] 9))) ⟨#[62]⟩ (cmpV B3.heap.size) rfl
  have b4 := a4.trans (c4 w.heap.size (Nat.le_refl _))
  have a5 : Below w.heap.size w (B4.alloc (.cells #[.string ⟨#[226, 137, 164]⟩] 9)) := b4.alloc b4.size _
  have n5 : (B4.alloc (.cells #[.string ⟨#[226, 137, 164]⟩] 9)).heap[B4.heap.size]? = some (.cells #[.string ⟨#[226, 137, 164]⟩] 9 (0, 0)) := by exact World.alloc_heap_new _ _
  have l5 : B4.heap.size ≠ w.heap.size ∧ B4.heap.size < (B4.alloc (.cells #[.string ⟨#[226, 137, 164]⟩] 9)).heap.size := by rw [World.size_alloc]; have := h4.lt; omega
  obtain ⟨B5, r5, h5, c5, k5⟩ := ins_map (h4.below ((Below.refl _ _).alloc (Nat.le_refl _) (.cells #[.string ⟨#[226, 137, 164]⟩] 9))) ⟨#[226, 137, 164]⟩ (cmpV B4.heap.size) rfl
  have b5 := a5.trans (c5 w.heap.size (Nat.le_refl _))
  have a6 : Below w.heap.size w (B5.alloc (.cells #[.string ⟨#[226, 137, 165]⟩] 9)) := b5.alloc b5.size _
  have n6 : (B5.alloc (.cells #[.string ⟨#[226, 137, 165]⟩] 9)).heap[B5.heap.size]? = some (.cells #[.string ⟨#[226, 137, 165]⟩] 9 (0, 0)) := by exact World.alloc_heap_new _ _
  have l6 : B5.heap.size ≠ w.heap.size ∧ B5.heap.size < (B5.alloc (.cells #[.string ⟨#[226, 137, 165]⟩] 9)).heap.size := by rw [World.size_alloc]; have := h5.lt; omega
  obtain ⟨B6, r6, h6, c6, k6⟩ := ins_map (h5.below ((Below.refl _ _).alloc (Nat.le_refl _) (.cells #[.string ⟨#[226, 137, 165]⟩] 9))) ⟨#[226, 137, 165]⟩ (cmpV B5.heap.size) rfl
  have b6 := a6.trans (c6 w.heap.size (Nat.le_refl _))
  obtain ⟨B7, r7, h7, c7, k7⟩ := ins_map h6 ⟨#[226, 136, 167]⟩ (fnV 63) rfl
  have b7 := b6.trans (c7 w.heap.size (Nat.le_refl _))
  obtain ⟨B8, r8, h8, c8, k8⟩ := ins_map h7 ⟨#[226, 136, 168]⟩ (fnV 64) rfl
  have b8 := b7.trans (c8 w.heap.size (Nat.le_refl _))
  have t6 := k6.trans (k7.trans k8)
  have t5 := k5.trans ((Kp.alloc w.heap.size B5 (.cells #[.string ⟨#[226, 137, 165]⟩] 9)).trans t6)
  have t4 := k4.trans ((Kp.alloc w.heap.size B4 (.cells #[.string ⟨#[226, 137, 164]⟩] 9)).trans t5)
  have t3 := k3.trans ((Kp.alloc w.heap.size B3 (.cells #[.string ⟨#[62]⟩] 9)).trans t4)
  have t2 := k2.trans ((Kp.alloc w.heap.size B2 (.cells #[.string ⟨#[60]⟩] 9)).trans t3)
  have t1 := k1.trans ((Kp.alloc w.heap.size B1 (.cells #[.string ⟨#[226, 137, 160]⟩] 9)).trans t2)
  obtain ⟨b, hb⟩ : ∃ b : Nat → Nat, b = fun k => match k with | 7 => w.heap.size + 1 | 8 => B1.heap.size | 9 => B2.heap.size | 10 => B3.heap.size | 11 => B4.heap.size | _ => B5.heap.size := ⟨_, rfl⟩
  have HS : Hid (∀ k, 7 ≤ k → k < 13 → b k < B8.heap.size ∧ B8.cell? ⟨b k, 0, none⟩ = some (.string (dyG k))) := Lib.hid (fun k h7 h13 => by
    rw [hb]
    rcases (by omega : k = 7 ∨ k = 8 ∨ k = 9 ∨ k = 10 ∨ k = 11 ∨ k = 12) with rfl | rfl | rfl | rfl | rfl | rfl
    · exact ⟨Nat.lt_of_lt_of_le l1.2 t1.1, by simp [World.cell?, (t1.2 _ l1.1 l1.2).trans n1, dyG]⟩
    · exact ⟨Nat.lt_of_lt_of_le l2.2 t2.1, by simp [World.cell?, (t2.2 _ l2.1 l2.2).trans n2, dyG]⟩
    · exact ⟨Nat.lt_of_lt_of_le l3.2 t3.1, by simp [World.cell?, (t3.2 _ l3.1 l3.2).trans n3, dyG]⟩
    · exact ⟨Nat.lt_of_lt_of_le l4.2 t4.1, by simp [World.cell?, (t4.2 _ l4.1 l4.2).trans n4, dyG]⟩
    · exact ⟨Nat.lt_of_lt_of_le l5.2 t5.1, by simp [World.cell?, (t5.2 _ l5.1 l5.2).trans n5, dyG]⟩
    · exact ⟨Nat.lt_of_lt_of_le l6.2 t6.1, by simp [World.cell?, (t6.2 _ l6.1 l6.2).trans n6, dyG]⟩
    )
  have hl := look_map h8 s
  have el : ask s (([] ++ [(⟨#[61]⟩, cmpV (w.heap.size + 1))] ++ [(⟨#[226, 137, 160]⟩, cmpV (B1.heap.size))] ++ [(⟨#[60]⟩, cmpV (B2.heap.size))] ++ [(⟨#[62]⟩, cmpV (B3.heap.size))] ++ [(⟨#[226, 137, 164]⟩, cmpV (B4.heap.size))] ++ [(⟨#[226, 137, 165]⟩, cmpV (B5.heap.size))] ++ [(⟨#[226, 136, 167]⟩, fnV 63)] ++ [(⟨#[226, 136, 168]⟩, fnV 64)] : List (ByteArray × Value)).zipIdx) 0 = ask s (judL b).zipIdx 0 := by rw [hb]; rfl
  rw [el, ansF_eq] at hl
  have HA : Hid (∃ b' : Nat → Nat, (fvOf (ask s (judL b).zipIdx 0) = fvOf (ask s (judL b').zipIdx 0) ∧ okOf (ask s (judL b).zipIdx 0) = okOf (ask s (judL b').zipIdx 0)) ∧ (∀ k, 7 ≤ k → k < 13 → b' k < B8.heap.size ∧ B8.cell? ⟨b' k, 0, none⟩ = some (.string (dyG k)))) := Lib.hid ⟨b, ⟨rfl, rfl⟩, HS.out⟩
  obtain ⟨fv, hfv⟩ : ∃ fv, fv = fvOf (ask s (judL b).zipIdx 0) := ⟨_, rfl⟩
  obtain ⟨ok, hok⟩ : ∃ ok, ok = okOf (ask s (judL b).zipIdx 0) := ⟨_, rfl⟩
  rw [← hfv, ← hok] at hl HA
  have HB := Lib.hid b8
  clear hfv hok el HS hb b b0 z0 h0 k7 k8 h7 h8 b7 b8 c7 c8 a1 n1 l1 h1 c1 k1 b1 t1 a2 n2 l2 h2 c2 k2 b2 t2 a3 n3 l3 h3 c3 k3 b3 t3 a4 n4 l4 h4 c4 k4 b4 t4 a5 n5 l5 h5 c5 k5 b5 t5 a6 n6 l6 h6 c6 k6 b6 t6
  go_enter Tryd.func34, Tryd.ntmps34
  go_wp2_with (go_at_call 62; refine (compared_c _ _).mono ?_; rintro e w' ⟨rfl, rfl⟩)
  go_ret2
  obtain ⟨b, ⟨e1, e2⟩, hs⟩ := HA.out
  exact ⟨b, by rw [← e1, ← e2]; rfl, hs, HB.out⟩
end Go.Proofs.YtjafngieohpdaaaDoor.Nu
