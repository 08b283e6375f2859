/- Merged by gen/ar_merge.py: ArGat, ArVa, ArRn, ArWords, ArNum, ArMap, ArLit. -/
import Derived.Test.YthlkgfplffdiaaaGreatDoorArP
import Derived.Test.YthlkgfplffdiaaaGreatDoorArOwn
import Derived.Maps.OwnIn
import Derived.Maps.Own
import Derived.Deep.AppendLies
import Derived.Laws.RangeString
import Derived.Lib.OthersKept
import Derived.Test.YthlkgfplffdiaaaGreatDoorArItems
import Derived.Test.YthlkgfplffdiaaaGreatDoorArErr
import Derived.Deep.RegionHeldLaw
/- A literal's items are gathered; a digit's value. -/
namespace Go.Proofs.YthlkgfplffdiaaaGreatDoor.Ar
open Go Go.RowKit Go.Shelf
attribute [local go_sem] Oper.semAt_some

set_option maxRecDepth 100000 in
set_option maxHeartbeats 2000000 in
theorem add_c (G base : Nat) (v : Value) (L : List Int) (x : Int) (w : World) (hr : Row w G 144 #[v, .bool false]) (ho : IOwn w base v L) (hl : L.length < 200) (hb : base ≤ w.heap.size) :
    Calls Tryz.prog 111 #[.pointer (some ⟨G, 0, none⟩), .int .i64 x] w fun e w' => e = .returned (.tuple #[]) ∧ ∃ v', Row w' G 144 #[v', .bool false] ∧ IOwn w' base v' (L ++ [x]) ∧ Chx (fun k => k = G ∨ v.ownBlock = some k) w w' ∧ (v'.ownBlock = v.ownBlock ∨ ∃ g, v'.ownBlock = some g ∧ w.heap.size ≤ g) := by
  obtain ⟨i0, hi, hz0, hz1, hz2⟩ := infoI
  obtain ⟨va, vc, rfl, -, -⟩ := ho.form
  obtain ⟨n, hn⟩ : ∃ n, n = L.length := ⟨_, rfl⟩
  rw [← hn] at hr ho hl ⊢
  have c0 := hr.cell 0
  have c1 := hr.cell 1
  have f0 := hr.frozen 0
  simp at c0 c1
  have t0 : ((n : Int) == 200) = false := by simp; omega
  have o2 := ho.below ((Below.refl w.heap.size w).alloc (Nat.le_refl _) (.cells #[.int .i64 x] 2))
  have o3 := o2
  change World.ownsRow _ _ _ _ _ _ _ at o3
  rw [← hn] at o3
  have r2 : Row (w.alloc (.cells #[.int .i64 x] 2)) G 144 #[.slice va n vc, .bool false] := hr.alloc _
  have hne : (Value.slice va n vc).ownBlock ≠ some G := own_off ho hr (by decide)
  have HO := Lib.hid ho
  have HO2 := Lib.hid o2
  have HO3 := Lib.hid o3
  have HR := Lib.hid hr
  have HR2 := Lib.hid r2
  have HN := Lib.hid hn
  have HNE := Lib.hid hne
  have H1 : Hid (∀ (j : Nat) (u : Value), [Value.int .i64 x][j]? = some u → (w.alloc (.cells #[.int .i64 x] 2)).cell? ((⟨w.heap.size, 0, none⟩ : Addr).add j) = some u) := Lib.hid (World.news_of_block (World.alloc_heap_new w (.cells #[.int .i64 x] 2)))
  have H4 : Hid (n + 1 ≤ maxLen ∧ (n + 1) * 8 ≤ 140737488355328 ∧ base ≤ (w.alloc (.cells #[.int .i64 x] 2)).heap.size) := Lib.hid ⟨by unfold maxLen; omega, by omega, by rw [World.size_alloc]; omega⟩
  clear hr ho o2 o3 r2 hn hne hl
  go_enter Tryz.func111, Tryz.ntmps111
  go_wp2_with (at_builtin; refine wpList_append_own_at _ rfl (.tmp 17) (.tmp 19) 22 rfl base 2 i0 (.int .i64 0) 1 8 Tryz.underlying22 hi hz0 hz1 hz2 rfl (by decide) (.slice va n vc) n (nums L) rfl HO3.out ⟨w.heap.size, 0, none⟩ 1 1 [.int .i64 x] rfl rfl H1.out (by simp [Value.oneCell']) H4.out.1 H4.out.2.1 H4.out.2.2 ?_; intro v' w3 how3 hg3 _ hob3; have HO4 := Lib.hid how3; have HG3 := Lib.hid hg3; have HOB3 := Lib.hid hob3; have k6 : Row w3 G 144 #[.slice va n vc, .bool false] := (hg3.block G HR2.out.lt (fun e => HNE.out e.symm)).trans HR2.out; have d0 := k6.cell 0; have g0 := k6.frozen 0; simp at d0; have HR8 := Lib.hid k6; obtain ⟨g2, cap2, rfl⟩ : ∃ g2 cap2, v' = .slice (some ⟨g2, 0, none⟩) (n + 1) cap2 := (by rcases how3.2 with ⟨_, h⟩ | ⟨g2, cap2, cur, h, _⟩; exact absurd h (by omega); exact ⟨g2, cap2, h⟩); clear how3 hg3 hob3 k6)
  go_end0
  refine ⟨rfl, .slice (some ⟨g2, 0, none⟩) (n + 1) cap2, ?_, ?_, ?_, ?_⟩
  · have := HR8.out.set 0 (.slice (some ⟨g2, 0, none⟩) (n + 1) cap2)
    simpa using this
  · have ho4 : IOwn w3 base (.slice (some ⟨g2, 0, none⟩) (n + 1) cap2) (L ++ [x]) := by
      have := HO4.out
      show World.ownsRow _ _ _ _ _ _ _
      rw [nums_snoc, List.length_append, ← HN.out]
      exact this
    exact ho4.keep (fun g e => Below.heap_setCell _ ⟨G, 0, none⟩ _ g (fun e2 => own_off ho4 HR8.out (by decide) (by rw [e, e2])))
  · exact ((Chx.of_below ((Below.refl w.heap.size w).alloc (Nat.le_refl _) (.cells #[.int .i64 x] 2))).trans (Chx.grown HG3.out (fun k e => .inr e))).trans (Chx.setCell _ (p := ⟨G, 0, none⟩) (.inl rfl) _)
  · rcases HOB3.out with h | h
    · exact .inl h
    · exact .inr ⟨_, h, by rw [World.size_alloc]; exact Nat.le_succ _⟩
set_option maxRecDepth 100000 in
set_option maxHeartbeats 2000000 in
theorem array_c (G base : Nat) (v : Value) (L : List Int) (r : Bool) (w : World) (hr : Row w G 144 #[v, .bool false]) (ho : IOwn w base v L) :
    Calls Tryz.prog 112 #[.pointer (some ⟨G, 0, none⟩), .bool r] w fun e w' => ∃ sa sn sc, e = .returned (.tuple #[.agg #[.bool ((L.length : Int) != 1), .bool r, .slice sa sn sc], .nilIface]) ∧ KL w' (.slice sa sn sc) L ∧ Below w.heap.size w w' := by
  have hk := ho.kl
  obtain ⟨va, vc, rfl, h1, h2⟩ := ho.form
  obtain ⟨n, hn⟩ : ∃ n, n = L.length := ⟨_, rfl⟩
  rw [← hn] at hr h1 hk ⊢
  unfold maxLen at h2
  have c0 := hr.cell 0
  have c1 := hr.cell 1
  simp at c0 c1
  have hlt := hr.lt
  have d0 : (w.alloc (.cells #[.bool false, .bool false, .slice none 0 0] 24)).cell? ⟨G, 0, none⟩ = some (.slice va n vc) := (World.cell?_alloc_lt _ _ _ hlt).trans c0
  have d1 : (w.alloc (.cells #[.bool false, .bool false, .slice none 0 0] 24)).cell? ⟨G, 1, none⟩ = some (.bool false) := (World.cell?_alloc_lt _ _ _ hlt).trans c1
  have hb := (Below.refl w.heap.size w).alloc (Nat.le_refl _) (.cells #[.bool false, .bool false, .slice none 0 0] 24)
  have HK : Hid (KL w (.slice va n n) L) := Lib.hid (by
    refine ⟨⟨va, n, by rw [hn], by rw [hn]; exact Nat.le_refl _, by unfold maxLen; omega⟩, fun h0 => ?_⟩
    obtain ⟨g, o, c, e, hg, hc⟩ := hk.cells h0
    injection e with e1 e2 e3
    exact ⟨g, o, n, by rw [e1, hn], hg, hc⟩)
  clear hr ho hk hn c0 c1 hb hlt
  go_enter Tryz.func112, Tryz.ntmps112
  go_wp2
  have hb2 := (Below.refl w.heap.size w).alloc (Nat.le_refl _) (.cells #[.bool ((n : Int) != 1), .bool r, .slice va n n] 24)
  exact bodyPost_ret (v := .tuple #[.agg #[.bool ((n : Int) != 1), .bool r, .slice va n n], .nilIface]) (by simp [results, Tryz.f112, go_sem]) rfl ⟨va, n, n, rfl, HK.out.below hb2, hb2⟩
theorem KL.keep {W W' : World} {v : Value} {A : List Int} (h : KL W v A) (hs : W.heap.size ≤ W'.heap.size) (hk : ∀ g o z, W.cell? ⟨g, o, none⟩ = some (.int .i64 z) → W'.heap[g]? = W.heap[g]?) : KL W' v A := by
  refine ⟨h.form, fun h0 => ?_⟩
  obtain ⟨g, o, c0, hv, hg, hc⟩ := h.cells h0
  refine ⟨g, o, c0, hv, by omega, fun j z hz => ?_⟩
  have e := hk g (o + j) z (hc j z hz)
  rw [← hc j z hz]
  unfold World.cell?
  rw [e]
/-- Numbers do not lie where an array does. -/
theorem kl_set3 {W : World} {v : Value} {A : List Int} {h : Nat} {t : TypeId} {x y : Bool} {a : Option Addr} {n c : Nat} (hk : KL W v A) (hr : Row W h t #[.bool x, .bool y, .slice a n c]) (p q r : Value) : KL (((W.setCell ⟨h, 0, none⟩ p).setCell ⟨h, 1, none⟩ q).setCell ⟨h, 2, none⟩ r) v A := by
  refine ⟨hk.form, fun h0 => ?_⟩
  obtain ⟨g, o, c0, hv, hg, hc⟩ := hk.cells h0
  have hne : g ≠ h := fun e => by
    subst e
    obtain ⟨z, hz⟩ := at_of (L := A) (k := 0) h0
    have h1 := (hr.cell (o + 0)).symm.trans (hc 0 z hz)
    match o, h1 with
    | 0, h1 => simp at h1
    | 1, h1 => simp at h1
    | 2, h1 => simp at h1
    | k + 3, h1 => simp at h1
  refine ⟨g, o, c0, hv, by rw [World.size_setCell, World.size_setCell, World.size_setCell]; exact hg, fun j z hz => ?_⟩
  rw [← hc j z hz]
  unfold World.cell?
  rw [Below.heap_setCell _ ⟨h, 2, none⟩ r g hne, Below.heap_setCell _ ⟨h, 1, none⟩ q g hne, Below.heap_setCell _ ⟨h, 0, none⟩ p g hne]
end Go.Proofs.YthlkgfplffdiaaaGreatDoor.Ar
/- Three words' values. -/
namespace Go.Proofs.YthlkgfplffdiaaaGreatDoor.Ar
open Go Go.RowKit Go.Shelf
attribute [local go_sem] Oper.semAt_some

set_option maxRecDepth 100000 in
set_option maxHeartbeats 2000000 in
theorem value_1 (w : World) : Calls Tryz.prog 110 #[.string ⟨#[49]⟩] w fun e w' => e = .returned (.tuple #[.int .i64 1, .bool true]) ∧ Below w.heap.size w w' := by
  have HC := Lib.hid (fun W => Tryz.strings_CutPrefix ⟨#[49]⟩ ⟨#[194, 175]⟩ W)
  have h0 : ∀ ty, (Instr.next (.pointer (some ⟨w.heap.size, 0, none⟩)) true ty).run Tryz.prog (w.iter ⟨#[49]⟩ 0) = .ok (.tuple #[.bool true, .int .i64 0, .int .i32 49]) (w.iter ⟨#[49]⟩ 1) := fun ty => run_next_ascii w ⟨#[49]⟩ 0 ty (by decide) (by decide)
  have h1 : ∀ ty, (Instr.next (.pointer (some ⟨w.heap.size, 0, none⟩)) true ty).run Tryz.prog (w.iter ⟨#[49]⟩ 1) = .ok (.tuple #[.bool false]) (w.iter ⟨#[49]⟩ 1) := fun ty => run_next_end w ⟨#[49]⟩ 1 ty (by decide)
  have HB : Hid (Below w.heap.size w (w.iter ⟨#[49]⟩ 1)) := Lib.hid ((Below.refl _ _).alloc (Nat.le_refl _) _)
  go_enter Tryz.func110, Tryz.ntmps110
  go_wp2_with (go_at_call 141; refine (HC.out _).mono ?_; rintro e w1 ⟨rfl, rfl⟩; dsimp only [Lib.trimPrefix, Lib.hasPrefix, List.isPrefixOf])
  refine wp_loop_rounds 2 ?_
  rw [rounds_succ]
  go_wp2
  rw [rounds_succ]
  go_wp2
  go_ret2
  exact ⟨rfl, HB.out⟩
set_option maxRecDepth 100000 in
set_option maxHeartbeats 2000000 in
theorem value_2 (w : World) : Calls Tryz.prog 110 #[.string ⟨#[50]⟩] w fun e w' => e = .returned (.tuple #[.int .i64 2, .bool true]) ∧ Below w.heap.size w w' := by
  have HC := Lib.hid (fun W => Tryz.strings_CutPrefix ⟨#[50]⟩ ⟨#[194, 175]⟩ W)
  have h0 : ∀ ty, (Instr.next (.pointer (some ⟨w.heap.size, 0, none⟩)) true ty).run Tryz.prog (w.iter ⟨#[50]⟩ 0) = .ok (.tuple #[.bool true, .int .i64 0, .int .i32 50]) (w.iter ⟨#[50]⟩ 1) := fun ty => run_next_ascii w ⟨#[50]⟩ 0 ty (by decide) (by decide)
  have h1 : ∀ ty, (Instr.next (.pointer (some ⟨w.heap.size, 0, none⟩)) true ty).run Tryz.prog (w.iter ⟨#[50]⟩ 1) = .ok (.tuple #[.bool false]) (w.iter ⟨#[50]⟩ 1) := fun ty => run_next_end w ⟨#[50]⟩ 1 ty (by decide)
  have HB : Hid (Below w.heap.size w (w.iter ⟨#[50]⟩ 1)) := Lib.hid ((Below.refl _ _).alloc (Nat.le_refl _) _)
  go_enter Tryz.func110, Tryz.ntmps110
  go_wp2_with (go_at_call 141; refine (HC.out _).mono ?_; rintro e w1 ⟨rfl, rfl⟩; dsimp only [Lib.trimPrefix, Lib.hasPrefix, List.isPrefixOf])
  refine wp_loop_rounds 2 ?_
  rw [rounds_succ]
  go_wp2
  rw [rounds_succ]
  go_wp2
  go_ret2
  exact ⟨rfl, HB.out⟩
set_option maxRecDepth 100000 in
set_option maxHeartbeats 2000000 in
theorem value_3 (w : World) : Calls Tryz.prog 110 #[.string ⟨#[51]⟩] w fun e w' => e = .returned (.tuple #[.int .i64 3, .bool true]) ∧ Below w.heap.size w w' := by
  have HC := Lib.hid (fun W => Tryz.strings_CutPrefix ⟨#[51]⟩ ⟨#[194, 175]⟩ W)
  have h0 : ∀ ty, (Instr.next (.pointer (some ⟨w.heap.size, 0, none⟩)) true ty).run Tryz.prog (w.iter ⟨#[51]⟩ 0) = .ok (.tuple #[.bool true, .int .i64 0, .int .i32 51]) (w.iter ⟨#[51]⟩ 1) := fun ty => run_next_ascii w ⟨#[51]⟩ 0 ty (by decide) (by decide)
  have h1 : ∀ ty, (Instr.next (.pointer (some ⟨w.heap.size, 0, none⟩)) true ty).run Tryz.prog (w.iter ⟨#[51]⟩ 1) = .ok (.tuple #[.bool false]) (w.iter ⟨#[51]⟩ 1) := fun ty => run_next_end w ⟨#[51]⟩ 1 ty (by decide)
  have HB : Hid (Below w.heap.size w (w.iter ⟨#[51]⟩ 1)) := Lib.hid ((Below.refl _ _).alloc (Nat.le_refl _) _)
  go_enter Tryz.func110, Tryz.ntmps110
  go_wp2_with (go_at_call 141; refine (HC.out _).mono ?_; rintro e w1 ⟨rfl, rfl⟩; dsimp only [Lib.trimPrefix, Lib.hasPrefix, List.isPrefixOf])
  refine wp_loop_rounds 2 ?_
  rw [rounds_succ]
  go_wp2
  rw [rounds_succ]
  go_wp2
  go_ret2
  exact ⟨rfl, HB.out⟩
end Go.Proofs.YthlkgfplffdiaaaGreatDoor.Ar
/- The runes of one literal. -/
namespace Go.Proofs.YthlkgfplffdiaaaGreatDoor.Ar
open Go Go.RowKit Go.Shelf
attribute [local go_sem] Oper.semAt_some

set_option maxRecDepth 100000 in
set_option maxHeartbeats 1000000 in
theorem between_c (w : World) : Calls Tryz.prog 113 #[.string ⟨#[39, 97, 39, 39, 39]⟩] w fun e w' => e = .returned (.tuple #[.string ⟨#[97, 39, 39]⟩, .bool true]) ∧ w = w' := by
  have HC := Lib.hid (fun W => Tryz.strings_CutPrefix ⟨#[39, 97, 39, 39, 39]⟩ ⟨#[39]⟩ W)
  have HD := Lib.hid (fun W => Tryz.strings_CutSuffix ⟨#[97, 39, 39, 39]⟩ ⟨#[39]⟩ W (by decide))
  have e1 : (Lib.trimPrefix [39, 97, 39, 39, 39] [39]).toArray = (#[97, 39, 39, 39] : Array UInt8) := by decide
  have e2 : Lib.hasPrefix [39, 97, 39, 39, 39] [39] = true := by decide
  have e3 : (Lib.trimSuffix [97, 39, 39, 39] [39]).toArray = (#[97, 39, 39] : Array UInt8) := by decide
  have e4 : Lib.hasSuffix [97, 39, 39, 39] [39] = true := by decide
  go_enter Tryz.func113, Tryz.ntmps113
  go_wp2_with (first
    | (go_at_call 141; refine (HC.out _).mono ?_; rintro e w1 ⟨rfl, rfl⟩; dsimp only; rw [e1, e2])
    | (go_at_call 142; refine (HD.out _).mono ?_; rintro e w1 ⟨rfl, rfl⟩; dsimp only; rw [e3, e4]))
  go_ret2
  exact ⟨rfl, rfl⟩
set_option maxRecDepth 100000 in
set_option maxHeartbeats 4000000 in
theorem runes_c (w : World) : Calls Tryz.prog 84 #[.string ⟨#[39, 97, 39, 39, 39]⟩] w fun e w' => ∃ sa sn sc, e = .returned (.tuple #[.agg #[.bool true, .bool true, .slice sa sn sc], .nilIface]) ∧ KL w' (.slice sa sn sc) [97, 39] ∧ Below w.heap.size w w' := by
  have HBT := Lib.hid (fun W => between_c W)
  obtain ⟨w2, hw2⟩ : ∃ w2, w2 = ((w.alloc (.cells #[.bool false, .bool false, .slice none 0 0] 24)).alloc (.cells #[.slice none 0 0, .bool false] 144)) := ⟨_, rfl⟩
  have hs2 : w2.heap.size = w.heap.size + 1 + 1 := by rw [hw2]; simp
  have hb2 : Below w.heap.size w w2 := by rw [hw2]; exact ((Below.refl _ w).alloc (Nat.le_refl _) _).alloc (by simp) _
  have r0 : Row w2 w.heap.size 24 #[.bool false, .bool false, .slice none 0 0] := by rw [hw2]; exact (Row.new _ _ _).alloc _
  have r1 : Row w2 (w.heap.size + 1) 144 #[.slice none 0 0, .bool false] := by rw [hw2]; exact Row.at _ _ _ _ (by simp)
  have hx0 : ∀ ty, (Instr.next (.pointer (some ⟨w.heap.size + 1 + 1, 0, none⟩)) true ty).run Tryz.prog (((w.alloc (.cells #[.bool false, .bool false, .slice none 0 0] 24)).alloc (.cells #[.slice none 0 0, .bool false] 144)).iter ⟨#[97, 39, 39]⟩ 0) = .ok (.tuple #[.bool true, .int .i64 0, .int .i32 97]) (((w.alloc (.cells #[.bool false, .bool false, .slice none 0 0] 24)).alloc (.cells #[.slice none 0 0, .bool false] 144)).iter ⟨#[97, 39, 39]⟩ 1) := fun ty => by
    have := run_next_ascii (P := Tryz.prog) w2 ⟨#[97, 39, 39]⟩ 0 ty (by decide) (by decide)
    rw [hs2, hw2] at this
    exact this
  have h2i : Below w2.heap.size w2 (w2.iter ⟨#[97, 39, 39]⟩ 1) := (Below.refl _ _).alloc (Nat.le_refl _) _
  have hk1 : (w2.iter ⟨#[97, 39, 39]⟩ 1).heap[w.heap.size + 1 + 1]? = some (.stringIter ⟨#[97, 39, 39]⟩ 1) := by rw [← hs2]; exact World.iter_heap _ _ _
  have ha1 := add_c (w.heap.size + 1) (w.heap.size + 1 + 1) (.slice none 0 0) [] 97 (w2.iter ⟨#[97, 39, 39]⟩ 1) (r1.alloc _) (IOwn.nil _ _) (by decide) (by rw [← hs2]; exact h2i.size)
  rw [hw2] at ha1
  have HA1 := Lib.hid ha1
  have HR0 := Lib.hid (show Row (w2.iter ⟨#[97, 39, 39]⟩ 1) w.heap.size 24 #[.bool false, .bool false, .slice none 0 0] from r0.alloc _)
  have HK1 := Lib.hid hk1
  have HB1 := Lib.hid (hb2.trans (h2i.mono (by omega)))
  have HS1 : Hid ((w2.iter ⟨#[97, 39, 39]⟩ 1).heap.size = w.heap.size + 1 + 1 + 1) := Lib.hid (by show (w2.alloc _).heap.size = _; rw [World.size_alloc, hs2])
  have HW2 := Lib.hid hw2
  have HS2 := Lib.hid hs2
  clear r0 r1 h2i hk1 ha1 hb2 hs2 hw2
  go_enter Tryz.func84, Tryz.ntmps84
  go_wp2_with (go_at_call 113; refine (HBT.out _).mono ?_; rintro e w1 ⟨rfl, rfl⟩)
  refine wp_loop_rounds 4 ?_
  rw [rounds_succ]
  go_wp2_with (go_at_call 111; refine HA1.out.mono ?_; rintro e w4 ⟨rfl, v4, hr4, ho4, hch, hob⟩; rw [← HW2.out] at hch hob; have H4 := Lib.hid (And.intro hr4 (And.intro ho4 (And.intro hch hob))); clear hr4 ho4 hch hob)
  obtain ⟨hr4, ho4, hch, hob⟩ := H4.out
  have hz1 := HS1.out
  have hk4 : w4.heap[w.heap.size + 1 + 1]? = some (.stringIter ⟨#[97, 39, 39]⟩ 1) := (hch.block (w.heap.size + 1 + 1) (by omega) (fun h => by
    rcases h with h | h
    · omega
    · cases h)).trans HK1.out
  have hne : ∀ g, v4.ownBlock = some g → g ≠ w.heap.size + 1 + 1 := fun g e => by
    rcases hob with h | ⟨g', h, hg⟩
    · rw [h] at e; cases e
    · rw [h] at e; cases e; omega
  have hx1 : ∀ ty, (Instr.next (.pointer (some ⟨w.heap.size + 1 + 1, 0, none⟩)) true ty).run Tryz.prog w4 = .ok (.tuple #[.bool true, .int .i64 1, .int .i32 39]) (w4.iterAt (w.heap.size + 1 + 1) ⟨#[97, 39, 39]⟩ 2) := fun ty => Lib.run_next_ascii_at w4 (w.heap.size + 1 + 1) ⟨#[97, 39, 39]⟩ 1 ty hk4 (by decide) (by decide)
  have hk5 : (w4.iterAt (w.heap.size + 1 + 1) ⟨#[97, 39, 39]⟩ 2).heap[w.heap.size + 1 + 1]? = some (.stringIter ⟨#[97, 39, 39]⟩ 2) := Lib.iterAt_heap w4 (w.heap.size + 1 + 1) ⟨#[97, 39, 39]⟩ 1 2 hk4
  have hx2 : ∀ ty, (Instr.next (.pointer (some ⟨w.heap.size + 1 + 1, 0, none⟩)) true ty).run Tryz.prog (w4.iterAt (w.heap.size + 1 + 1) ⟨#[97, 39, 39]⟩ 2) = .ok (.tuple #[.bool true, .int .i64 2, .int .i32 39]) ((w4.iterAt (w.heap.size + 1 + 1) ⟨#[97, 39, 39]⟩ 2).iterAt (w.heap.size + 1 + 1) ⟨#[97, 39, 39]⟩ 3) := fun ty => Lib.run_next_ascii_at _ (w.heap.size + 1 + 1) ⟨#[97, 39, 39]⟩ 2 ty hk5 (by decide) (by decide)
  have hk6 : ((w4.iterAt (w.heap.size + 1 + 1) ⟨#[97, 39, 39]⟩ 2).iterAt (w.heap.size + 1 + 1) ⟨#[97, 39, 39]⟩ 3).heap[w.heap.size + 1 + 1]? = some (.stringIter ⟨#[97, 39, 39]⟩ 3) := Lib.iterAt_heap _ (w.heap.size + 1 + 1) ⟨#[97, 39, 39]⟩ 2 3 hk5
  have hot : ∀ j, j ≠ w.heap.size + 1 + 1 → ((w4.iterAt (w.heap.size + 1 + 1) ⟨#[97, 39, 39]⟩ 2).iterAt (w.heap.size + 1 + 1) ⟨#[97, 39, 39]⟩ 3).heap[j]? = w4.heap[j]? := fun j hj => (Lib.iterAt_other _ (w.heap.size + 1 + 1) j ⟨#[97, 39, 39]⟩ 3 hj).trans (Lib.iterAt_other _ (w.heap.size + 1 + 1) j ⟨#[97, 39, 39]⟩ 2 hj)
  have hz5 : ((w4.iterAt (w.heap.size + 1 + 1) ⟨#[97, 39, 39]⟩ 2).iterAt (w.heap.size + 1 + 1) ⟨#[97, 39, 39]⟩ 3).heap.size = w4.heap.size := (Lib.iterAt_size _ (w.heap.size + 1 + 1) ⟨#[97, 39, 39]⟩ 3).trans (Lib.iterAt_size _ (w.heap.size + 1 + 1) ⟨#[97, 39, 39]⟩ 2)
  have r5 : Row ((w4.iterAt (w.heap.size + 1 + 1) ⟨#[97, 39, 39]⟩ 2).iterAt (w.heap.size + 1 + 1) ⟨#[97, 39, 39]⟩ 3) (w.heap.size + 1) 144 #[v4, .bool false] := (hot _ (by omega)).trans hr4
  have o5 : IOwn ((w4.iterAt (w.heap.size + 1 + 1) ⟨#[97, 39, 39]⟩ 2).iterAt (w.heap.size + 1 + 1) ⟨#[97, 39, 39]⟩ 3) (w.heap.size + 1 + 1) v4 [97] := ho4.keep (fun g e => hot g (hne g e))
  have hz4 := hch.size
  have ha2 := add_c (w.heap.size + 1) (w.heap.size + 1 + 1) v4 [97] 39 _ r5 o5 (by decide) (by rw [hz5]; omega)
  have HA2 := Lib.hid ha2
  have q0 : Row ((w4.iterAt (w.heap.size + 1 + 1) ⟨#[97, 39, 39]⟩ 2).iterAt (w.heap.size + 1 + 1) ⟨#[97, 39, 39]⟩ 3) w.heap.size 24 #[.bool false, .bool false, .slice none 0 0] := (hot _ (by omega)).trans ((hch.block w.heap.size (by omega) (fun h => by
    rcases h with h | h
    · omega
    · cases h)).trans HR0.out)
  have hb5 : Below w.heap.size w ((w4.iterAt (w.heap.size + 1 + 1) ⟨#[97, 39, 39]⟩ 2).iterAt (w.heap.size + 1 + 1) ⟨#[97, 39, 39]⟩ 3) := HB1.out.trans (((hch.below (n := w.heap.size) (by omega) (fun k hk h => by
    rcases h with h | h
    · omega
    · cases h)).trans (Lib.below_iterAt (Below.refl _ _) (by omega) ⟨#[97, 39, 39]⟩ 2)).trans (Lib.below_iterAt (Below.refl _ _) (by omega) ⟨#[97, 39, 39]⟩ 3))
  have HE := Lib.hid hne
  have HK6 := Lib.hid hk6
  have HQ0 := Lib.hid q0
  have HB5 := Lib.hid hb5
  have HZ5 := Lib.hid hz5
  have HZ4 := Lib.hid hz4
  have HOW := Lib.hid ho4
  clear hr4 ho4 hch hob hz1 hk4 hne hk5 hk6 hot hz5 r5 o5 hz4 ha2 q0 hb5
  rw [rounds_succ]
  go_wp2
  rw [rounds_succ]
  go_wp2_with (go_at_call 111; refine HA2.out.mono ?_; rintro e w6 ⟨rfl, v6, hr6, ho6, hch, hob⟩; have H6 := Lib.hid (And.intro hr6 (And.intro ho6 hch)); clear hr6 ho6 hch hob)
  obtain ⟨hr6, ho6, hch⟩ := H6.out
  have hz1 := HS1.out
  have hz4 := HZ4.out
  have hz5 := HZ5.out
  have hno : ∀ k, k ≤ w.heap.size + 1 + 1 → k ≠ w.heap.size + 1 → ¬ (k = w.heap.size + 1 ∨ v4.ownBlock = some k) := fun k h1 h2 h => by
    rcases h with h | h
    · exact h2 h
    · have := own_base HOW.out h
      have := HE.out k h
      omega
  have hk7 : w6.heap[w.heap.size + 1 + 1]? = some (.stringIter ⟨#[97, 39, 39]⟩ 3) := (hch.block (w.heap.size + 1 + 1) (by omega) (hno _ (Nat.le_refl _) (by omega))).trans HK6.out
  have hx3 : ∀ ty, (Instr.next (.pointer (some ⟨w.heap.size + 1 + 1, 0, none⟩)) true ty).run Tryz.prog w6 = .ok (.tuple #[.bool false]) w6 := fun ty => Lib.run_next_end_at w6 (w.heap.size + 1 + 1) ⟨#[97, 39, 39]⟩ 3 ty hk7 (by decide)
  have q6 : Row w6 w.heap.size 24 #[.bool false, .bool false, .slice none 0 0] := (hch.block w.heap.size (by omega) (hno _ (by omega) (by omega))).trans HQ0.out
  have hb6 : Below w.heap.size w w6 := HB5.out.trans (hch.below (by omega) (fun k hk => hno k (by omega) (by omega)))
  have har := array_c (w.heap.size + 1) (w.heap.size + 1 + 1) v6 ([97] ++ [39]) true w6 hr6 ho6
  have HAR := Lib.hid har
  have HQ6 := Lib.hid q6
  have HB6 := Lib.hid hb6
  have hsz6 := hch.size
  have HZ6 : Hid (w.heap.size < w6.heap.size) := Lib.hid (by omega)
  clear hr6 ho6 hch hz1 hz4 hz5 hno hk7 q6 hb6 har hsz6 hx1 hx2
  rw [rounds_succ]
  go_wp2_with (go_at_call 112; refine HAR.out.mono ?_; rintro e w7 ⟨sa, sn, sc, rfl, hk, hb⟩; obtain ⟨m0, m1, m2, m3, m4, m5⟩ := row3 (HQ6.out.below hb HQ6.out.lt); have HR7 := Lib.hid (HQ6.out.below hb HQ6.out.lt); have HK7 := Lib.hid hk; have HB7 := Lib.hid hb; clear hk hb)
  obtain ⟨v0, v1, v2, -, -, -⟩ := row3 (row_set3 HR7.out (.bool true) (.bool true) (.slice sa sn sc))
  have hb7 : Below w.heap.size w w7 := HB6.out.trans (HB7.out.mono (Nat.le_of_lt HZ6.out))
  exact bodyPost_ret (v := .tuple #[.agg #[.bool true, .bool true, .slice sa sn sc], .nilIface]) (by simp [results, Tryz.f84, go_sem, v0, v1, v2]) rfl ⟨sa, sn, sc, rfl, kl_set3 HK7.out HR7.out _ _ _, ((hb7.setCell (p := ⟨w.heap.size, 0, none⟩) (Nat.le_refl _) _).setCell (p := ⟨w.heap.size, 1, none⟩) (Nat.le_refl _) _).setCell (p := ⟨w.heap.size, 2, none⟩) (Nat.le_refl _) _⟩
end Go.Proofs.YthlkgfplffdiaaaGreatDoor.Ar
/- The words of one literal. -/
namespace Go.Proofs.YthlkgfplffdiaaaGreatDoor.Ar
open Go Go.RowKit Go.Shelf
attribute [local go_sem] Oper.semAt_some

def wordsL : List ByteArray := [⟨#[49]⟩, ⟨#[50]⟩, ⟨#[51]⟩]
def encW (x : ByteArray) : Array Value := #[.string x]
/-- How long a text's value is. -/
def strSz : Value → Nat
  | .string s => s.size
  | _ => 0
def leftW : Nat → ByteArray
  | 0 => ⟨#[49, 32, 50, 32, 51]⟩
  | 1 => ⟨#[50, 32, 51]⟩
  | 2 => ⟨#[51]⟩
  | _ => ⟨#[]⟩
set_option maxRecDepth 100000 in
set_option maxHeartbeats 4000000 in
theorem words_stops (m : Nat) (hm : 5 ≤ m) (Kp : World → World → Prop) (hKB : ∀ A B : World, Below A.heap.size A B → Kp A B) (hKt : ∀ {A B C : World}, Kp A B → Kp B C → Kp A C) (hKs : ∀ A B : World, Kp A B → A.heap.size ≤ B.heap.size) (hKm : ∀ (A B : World) (z : Int), Kp A B → A.cell? ⟨2, 0, none⟩ = some (.int .i64 z) → B.cell? ⟨2, 0, none⟩ = some (.int .i64 z)) (Bt : Nat) (w : World) (hB : Row w Bt 9 #[.string (leftW 0)]) (z : Int) (hz : w.cell? ⟨2, 0, none⟩ = some (.int .i64 z)) :
    SeqStopsW Fence.wide m Tryz.prog 139 #[.pointer (some ⟨Bt, 0, none⟩)] encW Kp (fun xs => xs = wordsL) (fun _ => True) (fun pre x _ => ∃ rest, wordsL = pre ++ x :: rest) w := by
  intro l J Jx W hW hJb hJxb hY h0
  obtain ⟨b0, -⟩ := row1 (hB.below hW hB.lt)
  have HK0 := Lib.hid (hKB _ _ hW)
  have HCUT : Hid (∀ (s : ByteArray) W', s.size < 100 → Kp w W' → Calls Tryz.prog 140 #[.string s, .string ⟨#[32]⟩] W' fun e w' => e = .returned (.tuple #[.string ⟨(Lib.cut s.data.toList [32]).1.toArray⟩, .string ⟨(Lib.cut s.data.toList [32]).2.1.toArray⟩, .bool (Lib.cut s.data.toList [32]).2.2]) ∧ Below W'.heap.size W' w') := Lib.hid (fun s W' hs hk => by
    refine (Tryz.strings_Cut s ⟨#[32]⟩ z W' (by omega) (hKm _ _ _ hk hz)).mono ?_
    rintro e w' ⟨rfl, n, rfl⟩
    exact ⟨rfl, below_drewN _ _⟩)
  have H0 := Lib.hid h0
  clear hB hz hW h0
  refine callsIn_of_wp Tryz.func139 rfl trivial ?_ rfl
  simp only [Tryz.ntmps139, List.size_toArray, List.length_cons, List.length_nil, Nat.reduceAdd, Nat.reduceSub, Array.replicate_succ, Array.replicate_zero, List.push_toArray, List.append_toArray, List.nil_append, List.cons_append]
  gi_wp2
  gi_loopw [3, 4] (fun a b wr => ∃ k : Nat, k ≤ 3 ∧ a = .string (leftW k) ∧ b = .bool (decide (k < 3)) ∧ J (wordsL.take k) wr ∧ Kp w wr ∧ W.heap.size ≤ wr.heap.size) (fun a _ _ => strSz a)
  case atStart => exact ⟨0, by decide, rfl, rfl, H0.out, HK0.out, Nat.le_refl _⟩
  case round =>
    obtain ⟨k, hk, rfl, rfl, hJs, hkp, hsz⟩ := hrel
    have HJS := Lib.hid hJs
    have HKP := Lib.hid hkp
    have HSZ := Lib.hid hsz
    clear hJs hkp hsz
    obtain rfl | rfl | rfl | rfl : k = 0 ∨ k = 1 ∨ k = 2 ∨ k = 3 := by omega
    · have hc := HCUT.out ⟨#[49, 32, 50, 32, 51]⟩ wr (by decide) HKP.out
      have e1 : (Lib.cut [49, 32, 50, 32, 51] [32]).1.toArray = (#[49] : Array UInt8) := by decide
      have e2 : (Lib.cut [49, 32, 50, 32, 51] [32]).2.1.toArray = (#[50, 32, 51] : Array UInt8) := by decide
      have e3 : (Lib.cut [49, 32, 50, 32, 51] [32]).2.2 = true := by decide
      dsimp only at hc
      rw [e1, e2, e3] at hc
      have HC := Lib.hid hc
      have HYY := Lib.hid (fun W1 h1 h2 => hY (wordsL.take 0) ⟨#[49]⟩ W1 h1 ⟨[⟨#[50]⟩, ⟨#[51]⟩], rfl⟩ h2)
      clear hc e1 e2 e3
      dsimp only [leftW]
      gi_wp2_with (refine ⟨trivial, fun _ => by omega, ?_⟩; gi_at_call 140; refine (callsIn_wide.2 HC.out).mono ?_; rintro e w1 ⟨rfl, hb⟩; have HB := Lib.hid hb; obtain ⟨fn, tmps, assign, body, hy, hR⟩ := HYY.out w1 (hJb _ _ _ HJS.out hb) (Nat.le_trans HSZ.out hb.size); dsimp only [encW] at hy; have HR := Lib.hid hR; clear hb hR)
      refine ⟨fun _ => by omega, HR.out.mono ?_⟩
      rintro e W3 (⟨rfl, hJ3, hk3⟩ | ⟨rfl, hJx3⟩)
      · have HJ3 := Lib.hid hJ3
        have HK3 := Lib.hid hk3
        clear hJ3 hk3 hy
        gi_wp2
        go_roundw
        case rel => exact ⟨1, by decide, rfl, rfl, HJ3.out, hKt HKP.out (hKt (hKB _ _ HB.out) HK3.out), Nat.le_trans HSZ.out (Nat.le_trans HB.out.size (hKs _ _ HK3.out))⟩
        case measure => decide
      · have HJ3 := Lib.hid hJx3
        clear hJx3 hy
        gi_wp2
        refine bodyPost_ret (results_none rfl _ _ _) rfl ?_
        exact ⟨⟨_, rfl⟩, .inr ⟨_, trivial, HJ3.out⟩⟩
    · have hc := HCUT.out ⟨#[50, 32, 51]⟩ wr (by decide) HKP.out
      have e1 : (Lib.cut [50, 32, 51] [32]).1.toArray = (#[50] : Array UInt8) := by decide
      have e2 : (Lib.cut [50, 32, 51] [32]).2.1.toArray = (#[51] : Array UInt8) := by decide
      have e3 : (Lib.cut [50, 32, 51] [32]).2.2 = true := by decide
      dsimp only at hc
      rw [e1, e2, e3] at hc
      have HC := Lib.hid hc
      have HYY := Lib.hid (fun W1 h1 h2 => hY (wordsL.take 1) ⟨#[50]⟩ W1 h1 ⟨[⟨#[51]⟩], rfl⟩ h2)
      clear hc e1 e2 e3
      dsimp only [leftW]
      gi_wp2_with (refine ⟨trivial, fun _ => by omega, ?_⟩; gi_at_call 140; refine (callsIn_wide.2 HC.out).mono ?_; rintro e w1 ⟨rfl, hb⟩; have HB := Lib.hid hb; obtain ⟨fn, tmps, assign, body, hy, hR⟩ := HYY.out w1 (hJb _ _ _ HJS.out hb) (Nat.le_trans HSZ.out hb.size); dsimp only [encW] at hy; have HR := Lib.hid hR; clear hb hR)
      refine ⟨fun _ => by omega, HR.out.mono ?_⟩
      rintro e W3 (⟨rfl, hJ3, hk3⟩ | ⟨rfl, hJx3⟩)
      · have HJ3 := Lib.hid hJ3
        have HK3 := Lib.hid hk3
        clear hJ3 hk3 hy
        gi_wp2
        go_roundw
        case rel => exact ⟨2, by decide, rfl, rfl, HJ3.out, hKt HKP.out (hKt (hKB _ _ HB.out) HK3.out), Nat.le_trans HSZ.out (Nat.le_trans HB.out.size (hKs _ _ HK3.out))⟩
        case measure => decide
      · have HJ3 := Lib.hid hJx3
        clear hJx3 hy
        gi_wp2
        refine bodyPost_ret (results_none rfl _ _ _) rfl ?_
        exact ⟨⟨_, rfl⟩, .inr ⟨_, trivial, HJ3.out⟩⟩
    · have hc := HCUT.out ⟨#[51]⟩ wr (by decide) HKP.out
      have e1 : (Lib.cut [51] [32]).1.toArray = (#[51] : Array UInt8) := by decide
      have e2 : (Lib.cut [51] [32]).2.1.toArray = (#[] : Array UInt8) := by decide
      have e3 : (Lib.cut [51] [32]).2.2 = false := by decide
      dsimp only at hc
      rw [e1, e2, e3] at hc
      have HC := Lib.hid hc
      have HYY := Lib.hid (fun W1 h1 h2 => hY (wordsL.take 2) ⟨#[51]⟩ W1 h1 ⟨[], rfl⟩ h2)
      clear hc e1 e2 e3
      dsimp only [leftW]
      gi_wp2_with (refine ⟨trivial, fun _ => by omega, ?_⟩; gi_at_call 140; refine (callsIn_wide.2 HC.out).mono ?_; rintro e w1 ⟨rfl, hb⟩; have HB := Lib.hid hb; obtain ⟨fn, tmps, assign, body, hy, hR⟩ := HYY.out w1 (hJb _ _ _ HJS.out hb) (Nat.le_trans HSZ.out hb.size); dsimp only [encW] at hy; have HR := Lib.hid hR; clear hb hR)
      refine ⟨fun _ => by omega, HR.out.mono ?_⟩
      rintro e W3 (⟨rfl, hJ3, hk3⟩ | ⟨rfl, hJx3⟩)
      · have HJ3 := Lib.hid hJ3
        have HK3 := Lib.hid hk3
        clear hJ3 hk3 hy
        gi_wp2
        go_roundw
        case rel => exact ⟨3, by decide, rfl, rfl, HJ3.out, hKt HKP.out (hKt (hKB _ _ HB.out) HK3.out), Nat.le_trans HSZ.out (Nat.le_trans HB.out.size (hKs _ _ HK3.out))⟩
        case measure => decide
      · have HJ3 := Lib.hid hJx3
        clear hJx3 hy
        gi_wp2
        refine bodyPost_ret (results_none rfl _ _ _) rfl ?_
        exact ⟨⟨_, rfl⟩, .inr ⟨_, trivial, HJ3.out⟩⟩
    · gi_wp2
      go_end0
      exact ⟨⟨_, rfl⟩, .inl ⟨wordsL, rfl, HJS.out⟩⟩
end Go.Proofs.YthlkgfplffdiaaaGreatDoor.Ar
/- The numbers of one literal. -/
namespace Go.Proofs.YthlkgfplffdiaaaGreatDoor.Ar
open Go Go.RowKit Go.Shelf
attribute [local go_sem] Oper.semAt_some

def dgt (x : ByteArray) : Int := if x = ⟨#[49]⟩ then 1 else if x = ⟨#[50]⟩ then 2 else 3
theorem words_at {pre rest : List ByteArray} {x : ByteArray} (h : wordsL = pre ++ x :: rest) : (x = ⟨#[49]⟩ ∨ x = ⟨#[50]⟩ ∨ x = ⟨#[51]⟩) ∧ pre.length ≤ 2 := by
  constructor
  · have : x ∈ wordsL := by rw [h]; simp
    simpa [wordsL] using this
  · have := congrArg List.length h
    simp [wordsL] at this
    omega
theorem value_w (x : ByteArray) (h : x = ⟨#[49]⟩ ∨ x = ⟨#[50]⟩ ∨ x = ⟨#[51]⟩) (w : World) : Calls Tryz.prog 110 #[.string x] w fun e w' => e = .returned (.tuple #[.int .i64 (dgt x), .bool true]) ∧ Below w.heap.size w w' := by
  rcases h with rfl | rfl | rfl
  · exact value_1 w
  · rw [show dgt ⟨#[50]⟩ = 2 by decide]; exact value_2 w
  · rw [show dgt ⟨#[51]⟩ = 3 by decide]; exact value_3 w
set_option maxRecDepth 100000 in
theorem words_c (s : ByteArray) (w : World) : Calls Tryz.prog 109 #[.string s] w fun e w' => e = .returned (.func (.func 139) #[] #[.pointer (some ⟨w.heap.size, 0, none⟩)]) ∧ w' = w.alloc (.cells #[.string s] 9) := by
  go_enter Tryz.func109, Tryz.ntmps109
  go_wp2
  go_ret
  exact ⟨rfl, rfl⟩
/-- What the loop keeps. -/
def NumI (Kp : World → World → Prop) (w W8 : World) (h0 G : Nat) (pre : List ByteArray) (Wc : World) : Prop :=
  Kp W8 Wc ∧ Below h0 w Wc ∧ (∃ rest, wordsL = pre ++ rest) ∧ ∃ v, Row Wc G 144 #[v, .bool false] ∧ IOwn Wc W8.heap.size v (pre.map dgt)
section
variable {Kp : World → World → Prop} {w W8 : World} {h0 G : Nat}
theorem NumI.step (hKB : ∀ A B : World, Below A.heap.size A B → Kp A B) (hKt : ∀ {A B C : World}, Kp A B → Kp B C → Kp A C) (hKs : ∀ A B : World, Kp A B → A.heap.size ≤ B.heap.size) (h8 : h0 ≤ W8.heap.size) {pre : List ByteArray} {A B : World} (hi : NumI Kp w W8 h0 G pre A) (hb : Below A.heap.size A B) : NumI Kp w W8 h0 G pre B := by
  obtain ⟨h1, h2, h3, v, h4, h5⟩ := hi
  exact ⟨hKt h1 (hKB _ _ hb), h2.trans (hb.mono (Nat.le_trans h8 (hKs _ _ h1))), h3, v, h4.below hb h4.lt, h5.below hb⟩
theorem NumI.put (hKt : ∀ {A B C : World}, Kp A B → Kp B C → Kp A C) (hKp : ∀ (W : World) (l : Nat) (r r' : Loop), W8.heap.size ≤ l → W.heap[l]? = some (.loop r) → Kp W (W.putObj l (.loop r'))) (h8 : h0 ≤ W8.heap.size) (h6l : G < W8.heap.size) {pre : List ByteArray} {A : World} (l : Nat) (q q' : Loop) (hi : NumI Kp w W8 h0 G pre A) (hl : W8.heap.size ≤ l) (hA : A.heap[l]? = some (.loop q)) : NumI Kp w W8 h0 G pre (A.putObj l (.loop q')) := by
  obtain ⟨h1, h2, h3, v, h4, h5⟩ := hi
  refine ⟨hKt h1 (hKp _ _ _ _ hl hA), below_put h2 (by omega) hA, h3, v, (World.putObj_heap_other (by omega)).trans h4, h5.keep (fun g e => World.putObj_heap_other (fun e2 => ?_))⟩
  subst e2
  obtain ⟨cur, hc⟩ := own_cells h5 e
  rw [hc] at hA
  cases hA
end
set_option maxRecDepth 100000 in
set_option maxHeartbeats 4000000 in
theorem numbers_c (w : World) (z : Int) (hz : w.cell? ⟨2, 0, none⟩ = some (.int .i64 z)) : Calls Tryz.prog 82 #[.string ⟨#[49, 32, 50, 32, 51]⟩] w fun e w' => ∃ sa sn sc, e = .returned (.tuple #[.agg #[.bool true, .bool false, .slice sa sn sc], .nilIface]) ∧ KL w' (.slice sa sn sc) [1, 2, 3] ∧ Below w.heap.size w w' := by
  have hzl := World.block_lt_of_cell? w _ hz
  obtain ⟨w3, hw3⟩ : ∃ w3, w3 = ((w.alloc (.cells #[.bool false, .bool false, .slice none 0 0] 24)).alloc (.cells #[.nilIface] 40)).alloc (.cells #[.slice none 0 0, .bool false] 144) := ⟨_, rfl⟩
  have hs3 : w3.heap.size = w.heap.size + 1 + 1 + 1 := by rw [hw3]; simp
  have hb3 : Below w.heap.size w w3 := by rw [hw3]; exact (((Below.refl _ w).alloc (Nat.le_refl _) _).alloc (by simp) _).alloc (by simp; omega) _
  have r0 : Row w3 w.heap.size 24 #[.bool false, .bool false, .slice none 0 0] := by rw [hw3]; exact ((Row.new _ _ _).alloc _).alloc _
  have r1 : Row w3 (w.heap.size + 1) 40 #[.nilIface] := by rw [hw3]; exact (Row.at _ _ _ _ (by simp)).alloc _
  have r2 : Row w3 (w.heap.size + 1 + 1) 144 #[.slice none 0 0, .bool false] := by rw [hw3]; exact Row.at _ _ _ _ (by simp)
  have hwc := words_c ⟨#[49, 32, 50, 32, 51]⟩ w3
  rw [hs3, hw3] at hwc
  have HWC := Lib.hid hwc
  have HW3 := Lib.hid hw3
  have HS3 := Lib.hid hs3
  have HB3 := Lib.hid hb3
  have HR0 := Lib.hid r0
  have HR1 := Lib.hid r1
  have HR2 := Lib.hid r2
  have HZ := Lib.hid hz
  clear hwc hw3 hs3 hb3 r0 r1 r2 hz
  refine (callsIn_wide (n := 9)).1 ?_
  refine callsIn_of_wp_marks Tryz.func82 rfl trivial ?_ rfl
  simp only [Tryz.ntmps82, List.size_toArray, List.length_cons, List.length_nil, Nat.reduceAdd, Nat.reduceSub, Array.replicate_succ, Array.replicate_zero, List.push_toArray, List.append_toArray, List.nil_append, List.cons_append]
  refine wpIn_wide.2 ?_
  go_wp2_with (go_at_call 109; refine HWC.out.mono ?_; rintro e w8 ⟨rfl, hw8⟩; rw [← HW3.out] at hw8; have HW8 := Lib.hid hw8; clear hw8)
  rename_i Q' K hK
  have hs3 := HS3.out
  have h38 : Below w3.heap.size w3 w8 := by rw [HW8.out]; exact (Below.refl _ _).alloc (Nat.le_refl _) _
  have hp8 : Row w8 (w.heap.size + 1 + 1 + 1) 9 #[.string ⟨#[49, 32, 50, 32, 51]⟩] := by rw [HW8.out]; exact Row.at _ _ _ _ hs3
  have hs8 : w8.heap.size = w.heap.size + 4 := by rw [HW8.out, World.size_alloc, hs3]
  have hb8 : Below w.heap.size w w8 := HB3.out.trans (h38.mono (by omega))
  have q0 : Row w8 w.heap.size 24 #[.bool false, .bool false, .slice none 0 0] := HR0.out.below h38 (by omega)
  have q1 : Row w8 (w.heap.size + 1) 40 #[.nilIface] := HR1.out.below h38 (by omega)
  have q2 : Row w8 (w.heap.size + 1 + 1) 144 #[.slice none 0 0, .bool false] := HR2.out.below h38 (by omega)
  have hz8 : w8.cell? ⟨2, 0, none⟩ = some (.int .i64 z) := (hb8.cell (p := ⟨2, 0, none⟩) hzl).trans HZ.out
  obtain ⟨Kp, hKp⟩ : ∃ Kp : World → World → Prop, Kp = fun A B => A.heap.size ≤ B.heap.size ∧ ∀ k, k < w.heap.size + 4 → k < A.heap.size → k ≠ w.heap.size + 1 + 1 → B.heap[k]? = A.heap[k]? := ⟨_, rfl⟩
  have hKB : ∀ A B : World, Below A.heap.size A B → Kp A B := fun A B h => by rw [hKp]; exact ⟨h.size, fun k _ hk _ => h.block k hk⟩
  have hKt : ∀ {A B C : World}, Kp A B → Kp B C → Kp A C := fun {A B C} h g => by
    rw [hKp] at h g ⊢
    exact ⟨Nat.le_trans h.1 g.1, fun k h1 h2 h3 => (g.2 k h1 (Nat.lt_of_lt_of_le h2 h.1) h3).trans (h.2 k h1 h2 h3)⟩
  have hKs : ∀ A B : World, Kp A B → A.heap.size ≤ B.heap.size := fun A B h => by rw [hKp] at h; exact h.1
  have hKm : ∀ (A B : World) (z : Int), Kp A B → A.cell? ⟨2, 0, none⟩ = some (.int .i64 z) → B.cell? ⟨2, 0, none⟩ = some (.int .i64 z) := fun A B z h hm => by
    rw [hKp] at h
    have hl := World.block_lt_of_cell? A _ hm
    dsimp only at hl hzl
    have e := h.2 2 (by omega) hl (by omega)
    rw [← hm]
    unfold World.cell?
    rw [e]
  have hKr : ∀ {Wc : World} {k : Nat} {t : TypeId} {cs : Array Value}, Kp w8 Wc → Row w8 k t cs → k ≠ w.heap.size + 1 + 1 → Row Wc k t cs := fun {Wc k t cs} h hr hx => by
    rw [hKp] at h
    exact (h.2 k (by have := hr.lt; omega) hr.lt hx).trans hr
  have hKc : ∀ (A B : World) (v : Value), Chx (fun k => k = w.heap.size + 1 + 1 ∨ v.ownBlock = some k) A B → (∀ g, v.ownBlock = some g → w.heap.size + 4 ≤ g) → Kp A B := fun A B v h hv => by
    rw [hKp]
    refine ⟨h.size, fun k h1 h2 h3 => h.block k h2 (fun hx => ?_)⟩
    rcases hx with hx | hx
    · exact h3 hx
    · have := hv k hx; omega
  have hKbk : ∀ (W : World) (l : Nat) (r r' : Loop), w8.heap.size ≤ l → W.heap[l]? = some (.loop r) → Kp W (W.putObj l (.loop r')) := fun W l r r' hl _ => by
    rw [hKp]
    exact ⟨by simp [World.putObj], fun k h1 _ _ => World.putObj_heap_other (by omega)⟩
  have hI0 : NumI Kp w w8 w.heap.size (w.heap.size + 1 + 1) [] w8 := ⟨hKB _ _ (Below.refl _ _), hb8, ⟨wordsL, rfl⟩, _, q2, IOwn.nil _ _⟩
  have hst := words_stops 8 (by omega) Kp hKB hKt hKs hKm (w.heap.size + 1 + 1 + 1) w8 hp8 z hz8
  have HQ : Hid (∀ Wc, Kp w8 Wc → Row Wc w.heap.size 24 #[.bool false, .bool false, .slice none 0 0] ∧ Row Wc (w.heap.size + 1) 40 #[.nilIface]) := Lib.hid (fun Wc hk => ⟨hKr hk q0 (by omega), hKr hk q1 (by omega)⟩)
  have g8 : w.heap.size ≤ w8.heap.size := by omega
  have g6 : w.heap.size + 1 + 1 < w8.heap.size := by omega
  have HG : Hid (w8.heap.size = w.heap.size + 4) := Lib.hid hs8
  have HKB := Lib.hid hKB
  have HKT : Hid (∀ A B C : World, Kp A B → Kp B C → Kp A C) := Lib.hid (fun A B C h g => hKt h g)
  have HKS := Lib.hid hKs
  have HKC := Lib.hid hKc
  have HKBK := Lib.hid hKbk
  have HI0 := Lib.hid hI0
  have HST := Lib.hid hst
  clear hs3 h38 hp8 hs8 hb8 q0 q1 q2 hz8 hKp hKB hKt hKs hKm hKr hKc hKbk hI0 hst HW8 HR0 HR1 HR2 HW3 HS3 HB3 HZ HWC
  refine (wpIn_wide (n := 9)).1 ?_
  refine wpIn_rangeFunc_ownW rfl (by omega) (gf := 139) (lb := #[.pointer (some ⟨w.heap.size + 1 + 1 + 1, 0, none⟩)]) rfl trivial (enters_of Tryz.func139 (by kernel_rfl) rfl)
    HST.out (fun h g => HKT.out _ _ _ h g) HKBK.out (Below.refl _ _) (fun _ => rfl)
    (NumI Kp w w8 w.heap.size (w.heap.size + 1 + 1)) (fun _ _ _ => False)
    (fun _ _ _ hs hb => hs.step HKB.out (fun h g => HKT.out _ _ _ h g) HKS.out g8 hb) (fun _ _ _ _ hs _ => hs.elim)
    (fun _ _ l q q' hs hl hX => NumI.put (Kp := Kp) (fun h g => HKT.out _ _ _ h g) HKBK.out g8 g6 l q q' hs hl hX) (fun _ _ _ _ _ _ hs _ _ => hs.elim) HI0.out
    (fun pre x a' _ => (∃ rest, wordsL = pre ++ x :: rest) ∧ a' = { tmps := #[.string ⟨#[49, 32, 50, 32, 51]⟩, undef, .pointer (some ⟨w.heap.size, 0, none⟩), .pointer (some ⟨w.heap.size + 1, 0, none⟩), .pointer (some ⟨w.heap.size + 1 + 1, 0, none⟩), .string x, undef, undef, .string ⟨#[49, 32, 50, 32, 51]⟩, .func (.func 139) #[] #[.pointer (some ⟨w.heap.size + 1 + 1 + 1, 0, none⟩)], .string x, undef, undef, undef, undef, undef, undef, undef, undef, undef, undef, undef, undef, undef, undef], defers := [] })
    (fun _ _ _ _ _ _ _ hs _ _ => hs) ?assign ?body ?done ?stop
  case assign =>
    rintro l pre x Wc K' hIc hnx hsW hK'
    have HIc := Lib.hid hIc
    have HNX := Lib.hid hnx
    clear hIc hnx
    dsimp only [encW]
    gi_wp2
    exact hK' _ _ (KeepsFrom.refl _ _) (HKB.out _ _ (Below.refl _ _)) HIc.out ⟨HNX.out, rfl⟩
  case body =>
    rintro l pre x a' Wc hl - ⟨hk, hbw, -, v, hr, ho⟩ ⟨⟨rest, hrest⟩, rfl⟩
    have hWs := HKS.out _ _ hk
    obtain ⟨hx, hpl⟩ := words_at hrest
    have HVW := Lib.hid (value_w x hx Wc)
    have hov : ∀ g, v.ownBlock = some g → w.heap.size + 4 ≤ g := fun g e => by have := own_base ho e; have := HG.out; omega
    have HAD : Hid (∀ W, Below Wc.heap.size Wc W → Calls Tryz.prog 111 #[.pointer (some ⟨w.heap.size + 1 + 1, 0, none⟩), .int .i64 (dgt x)] W fun e w' => e = .returned (.tuple #[]) ∧ ∃ v', Row w' (w.heap.size + 1 + 1) 144 #[v', .bool false] ∧ IOwn w' w8.heap.size v' (pre.map dgt ++ [dgt x]) ∧ Chx (fun k => k = w.heap.size + 1 + 1 ∨ v.ownBlock = some k) W w' ∧ (v'.ownBlock = v.ownBlock ∨ ∃ g, v'.ownBlock = some g ∧ W.heap.size ≤ g)) := Lib.hid (fun W h => add_c (w.heap.size + 1 + 1) w8.heap.size v (pre.map dgt) (dgt x) W (hr.below h hr.lt) (ho.below h) (by rw [List.length_map]; omega) (Nat.le_trans hWs h.size))
    have HP : Hid (Kp w8 Wc ∧ Below w.heap.size w Wc ∧ (∀ g, v.ownBlock = some g → w.heap.size + 4 ≤ g) ∧ IOwn Wc w8.heap.size v (pre.map dgt) ∧ w8.heap.size ≤ Wc.heap.size ∧ wordsL = pre ++ x :: rest) := Lib.hid ⟨hk, hbw, hov, ho, hWs, hrest⟩
    obtain ⟨dx, hdx⟩ : ∃ d, d = dgt x := ⟨_, rfl⟩
    rw [← hdx] at HVW HAD
    have HDX := Lib.hid hdx
    clear hk hbw hr ho hrest hWs hx hpl hov hdx
    gi_wp2_with (first
      | (refine ⟨trivial, ?_⟩; gi_at_call 110; refine (CallsIn.inRound l (callsIn_wide.2 HVW.out)).mono ?_; rintro e w2 ⟨rfl, hb⟩; have HB2 := Lib.hid hb; clear hb)
      | (refine ⟨trivial, ?_⟩; gi_at_call 111; refine (CallsIn.inRound l (callsIn_wide.2 (HAD.out _ HB2.out))).mono ?_; rintro e w5 ⟨rfl, v', hr', ho', hch, hob⟩; have H5 := Lib.hid (And.intro hr' (And.intro ho' hch)); clear hr' ho' hch hob))
    obtain ⟨p1, p2, p3, p4, p5, p6⟩ := HP.out
    obtain ⟨h1, h2, h3⟩ := H5.out
    have hb2 := HB2.out
    have hk2 : Kp Wc w5 := HKT.out _ _ _ (HKB.out _ _ hb2) (HKC.out _ _ v h3 p3)
    have hg := HG.out
    refine ⟨(keeps_below _ hb2).trans ⟨h3.size, fun k o hk ho hc => ?_⟩, hk2, HKT.out _ _ _ p1 hk2, (p2.trans (hb2.mono (by omega))).trans (h3.below (by have := hb2.size; omega) (fun k hk hx => ?_)), ⟨rest, by rw [p6]; simp⟩, v', h1, ?_⟩
    · rw [h3.block k (Array.getElem?_eq_some_iff.1 ho).1 (fun hx => ?_)]
      · exact ho
      · rcases hx with hx | hx
        · omega
        · obtain ⟨cur, hcur⟩ := own_cells (p4.below hb2) hx
          rw [hcur] at ho
          cases ho
          cases hc
    · rcases hx with hx | hx
      · omega
      · have := p3 k hx; omega
    · rw [List.map_append, List.map_singleton, ← HDX.out]
      exact h2
  case done =>
    rintro D xs Wc hD rfl ⟨p1, p2, -, v, p3, p4⟩ hKD
    obtain ⟨q0, q1⟩ := HQ.out Wc p1
    have har := array_c (w.heap.size + 1 + 1) w8.heap.size v [1, 2, 3] false Wc p3 (by rw [show [1, 2, 3] = wordsL.map dgt by decide]; exact p4)
    have HAR := Lib.hid har
    have HQ0 := Lib.hid q0
    have HQ1 := Lib.hid q1
    have HKD := Lib.hid hKD
    have HP2 := Lib.hid p2
    have hg := HG.out
    have hws := HKS.out _ _ p1
    have HLT : Hid (w.heap.size + 4 ≤ Wc.heap.size ∧ w.heap.size + 4 ≤ D ∧ D < Wc.heap.size) := Lib.hid ⟨by omega, by omega, (Array.getElem?_eq_some_iff.1 hKD).1⟩
    clear p1 p2 p3 p4 q0 q1 har hKD hg hws
    refine hK _ _ ?_
    clear hK
    go_wp2_with (go_at_call 112; refine HAR.out.mono ?_; rintro e w7 ⟨sa, sn, sc, rfl, hk, hb⟩; obtain ⟨m0, m1, m2, m3, m4, m5⟩ := row3 (HQ0.out.below hb HQ0.out.lt); obtain ⟨n0, n1⟩ := row1 (HQ1.out.below hb HQ1.out.lt); have HK7 := Lib.hid hk; have HB7 := Lib.hid hb; clear hk hb)
    have r7 := HQ0.out.below HB7.out HQ0.out.lt
    have r8 := HQ1.out.below HB7.out HQ1.out.lt
    have hl := HLT.out
    have hz7 := HB7.out.size
    have hkd : w7.heap[D]? = some (.deferred (some [])) := (HB7.out.block D hl.2.2).trans HKD.out
    have hK1 := ((((KeepsOthers.setCell w7 ⟨w.heap.size, 0, none⟩ (.bool true)).trans (KeepsOthers.setCell _ ⟨w.heap.size, 1, none⟩ (.bool false))).trans (KeepsOthers.setCell _ ⟨w.heap.size, 2, none⟩ (.slice sa sn sc))).trans (KeepsOthers.setCell _ ⟨w.heap.size + 1, 0, none⟩ .nilIface)).same D _ hkd rfl
    have b1 := (row_set3 r7 (.bool true) (.bool false) (.slice sa sn sc)).other (j := w.heap.size + 1) (i := 0) (by omega) .nilIface
    have b2 := row_set1 (((r8.other (j := w.heap.size) (i := 0) (by omega) (.bool true)).other (j := w.heap.size) (i := 1) (by omega) (.bool false)).other (j := w.heap.size) (i := 2) (by omega) (.slice sa sn sc)) .nilIface
    have hk3 := kl_set3 HK7.out r7 (.bool true) (.bool false) (.slice sa sn sc)
    have hk4 : KL ((((w7.setCell ⟨w.heap.size, 0, none⟩ (.bool true)).setCell ⟨w.heap.size, 1, none⟩ (.bool false)).setCell ⟨w.heap.size, 2, none⟩ (.slice sa sn sc)).setCell ⟨w.heap.size + 1, 0, none⟩ .nilIface) (.slice sa sn sc) [1, 2, 3] := hk3.keep (Nat.le_of_eq (World.size_setCell _ _ _).symm) (fun g o y hg => Below.heap_setCell _ ⟨w.heap.size + 1, 0, none⟩ _ g (fun e => by
      subst e
      have r9 := ((r8.other (j := w.heap.size) (i := 0) (by omega) (.bool true)).other (j := w.heap.size) (i := 1) (by omega) (.bool false)).other (j := w.heap.size) (i := 2) (by omega) (.slice sa sn sc)
      have h1 := (r9.cell o).symm.trans hg
      match o, h1 with
      | 0, h1 => simp at h1
      | k + 1, h1 => simp at h1))
    have hB := ((((HP2.out.trans (HB7.out.mono (by omega))).setCell (p := ⟨w.heap.size, 0, none⟩) (Nat.le_refl _) (.bool true)).setCell (p := ⟨w.heap.size, 1, none⟩) (Nat.le_refl _) (.bool false)).setCell (p := ⟨w.heap.size, 2, none⟩) (Nat.le_refl _) (.slice sa sn sc)).setCell (p := ⟨w.heap.size + 1, 0, none⟩) (Nat.le_succ _) .nilIface
    refine ⟨by simp, .inl ⟨_, _, rfl, run_takeDeferred hK1, ?_⟩⟩
    obtain ⟨V, hV⟩ : ∃ V, V = (((w7.setCell ⟨w.heap.size, 0, none⟩ (.bool true)).setCell ⟨w.heap.size, 1, none⟩ (.bool false)).setCell ⟨w.heap.size, 2, none⟩ (.slice sa sn sc)).setCell ⟨w.heap.size + 1, 0, none⟩ .nilIface := ⟨_, rfl⟩
    rw [← hV] at hK1 b1 b2 hB hk4 ⊢
    have hg := grownBy_putObj' V D (.deferred none)
    obtain ⟨v0, v1, v2, -, -, -⟩ := row3 (b1.kept hg (fun r e => by cases e; exact ⟨_, hK1, rfl⟩))
    obtain ⟨v3, -⟩ := row1 (b2.kept hg (fun r e => by cases e; exact ⟨_, hK1, rfl⟩))
    refine ⟨.tuple #[.agg #[.bool true, .bool false, .slice sa sn sc], .nilIface], ?_, sa, sn, sc, rfl, ?_, ?_⟩
    · simp [results, Tryz.f82, go_sem, v0, v1, v2, v3]
    · exact hk4.keep hg.size (fun g o y hgc => World.putObj_heap_other (fun e => by
        subst e
        unfold World.cell? at hgc
        rw [hK1] at hgc
        simp at hgc))
    · exact hB.trans ((Below.refl w.heap.size V).grown hg (by have := (Array.getElem?_eq_some_iff.1 hK1).1; omega) (fun k e => by cases e; omega))
  case stop =>
    rintro _ _ _ _ _ _ hf _
    exact hf.elim
end Go.Proofs.YthlkgfplffdiaaaGreatDoor.Ar
/- The map of the literals' readers. -/
namespace Go.Proofs.YthlkgfplffdiaaaGreatDoor.Ar
open Go Go.RowKit Go.Shelf
attribute [local go_sem] Oper.semAt_some

def ent (x : (Int × Value) × Nat) : MapEntry := ⟨.int .i64 x.1.1, x.1.2, x.2⟩
def entL (l : List (Int × Value)) : List MapEntry := l.zipIdx.map ent
theorem entL_snoc (l : List (Int × Value)) (k : Int) (v : Value) : entL (l ++ [(k, v)]) = entL l ++ [⟨.int .i64 k, v, l.length⟩] := by
  unfold entL
  rw [List.zipIdx_append, List.map_append]
  simp [ent]
def ask (s : Int) : List ((Int × Value) × Nat) → Nat → Option (Nat × Value)
  | [], _ => none
  | x :: E, i => if s = x.1.1 then some (i, x.1.2) else ask s E (i + 1)
theorem ask_now (s : Int) : ∀ (E : List ((Int × Value) × Nat)) (i : Nat), Instr.findNow (.int .i64) (.int .i64 s) (E.map ent) i = some (ask s E i)
  | [], _ => rfl
  | x :: E, i => by
    have ih := ask_now s E (i + 1)
    simp only [List.map_cons, Instr.findNow, ent, Instr.sameNow, ask]
    by_cases h : s = x.1.1
    · simp [h]
    · have hb : (s == x.1.1) = false := by simp [h]
      simp [h, hb]
      exact ih
theorem find_s (s : Int) (l : List (Int × Value)) (W : World) : (Instr.findKey 3 (.int .i64 s) (entL l)).run Tryz.prog W = .ok (ask s l.zipIdx 0) W := by
  have h := ask_now s l.zipIdx 0
  unfold entL
  simp [Instr.findKey, run_underlying Tryz.underlying3, h, Result.andThen]
theorem check_s (W : World) (e : Bool) (s : Int) : (Instr.checkKey e 10000 3 (.int .i64 s)).run Tryz.prog W = .ok () W :=
  Go.MapKept.run_checkKey (n := 9999) Tryz.underlying3 (by first | exact trivial | simp [Go.MapKept.IsKey]) e
/-- THE MAP LIES in block m. -/
def MapAt (W : World) (m : Nat) (l : List (Int × Value)) : Prop := W.heap[m]? = some (.map (entL l).toArray l.length)
theorem MapAt.lt {W : World} {m : Nat} {l : List (Int × Value)} (h : MapAt W m l) : m < W.heap.size := (Array.getElem?_eq_some_iff.1 h).1
theorem MapAt.below {W W' : World} {m : Nat} {l : List (Int × Value)} (h : MapAt W m l) (hb : Below W.heap.size W W') : MapAt W' m l := (hb.block m h.lt).trans h
/-- What a look-up answers. -/
def ansF (r : Option (Nat × Value)) : Value := match r with
  | some x => .tuple #[x.2, .bool true]
  | none => .tuple #[.nilFunc, .bool false]
theorem look_map {W : World} {m : Nat} {l : List (Int × Value)} (h : MapAt W m l) (s : Int) :
    (Instr.lookup 113 (.map (some m)) (.int .i64 s) true).run Tryz.prog W = .ok (ansF (ask s l.zipIdx 0)) W := by
  have h1 := find_s s l W
  have h3 := fun e => check_s W e s
  cases hr : ask s l.zipIdx 0 with
  | none =>
    rw [hr] at h1
    simp [Instr.lookup, run_underlying Tryz.underlying113, Go.MapKept.run_getObj_map h, h3, h1, Result.andThen, Tryz.zeroValue71, ansF]
  | some x =>
    rw [hr] at h1
    simp [Instr.lookup, run_underlying Tryz.underlying113, Go.MapKept.run_getObj_map h, h3, h1, Result.andThen, ansF]
theorem ins_map {W : World} {m : Nat} {l : List (Int × Value)} (h : MapAt W m l) (k : Int) (v : Value) (hn : ask k l.zipIdx 0 = none) :
    ∃ W', (Instr.mapUpdate 113 (.map (some m)) (.int .i64 k) v).run Tryz.prog W = .ok () W' ∧ MapAt W' m (l ++ [(k, v)]) ∧ (∀ n, n ≤ m → Below n W W') := by
  have h1 := find_s k l W
  rw [hn] at h1
  have hlt := h.lt
  have hp : ((entL l).toArray).push { key := .int .i64 k, val := v, born := l.length } = (entL (l ++ [(k, v)])).toArray := by rw [entL_snoc]; simp
  refine ⟨{ W with heap := W.heap.setIfInBounds m (.map (entL (l ++ [(k, v)])).toArray (l ++ [(k, v)]).length) }, ?_, ?_, fun n hn' => ⟨rfl, rfl, rfl, by simp, fun q hq => ?_⟩⟩
  · have h4 : (Instr.checkKey false 10000 3 (.int .i64 k)).run Tryz.prog W = .ok () W := check_s _ _ _
    simp [Instr.mapUpdate, run_underlying Tryz.underlying113, Go.MapKept.run_getObj_map h, h4, h1, Go.MapKept.run_setObj_map _ h, Result.andThen, hp]
  · show (W.heap.setIfInBounds m _)[m]? = _
    rw [Array.getElem?_setIfInBounds_self_of_lt hlt]
  · show (W.heap.setIfInBounds m _)[q]? = _
    rw [Array.getElem?_setIfInBounds_ne (by omega)]
/-- A map that is made, entry by entry. -/
theorem new_map (w : World) : MapAt (w.alloc (.map #[] 0)) w.heap.size [] := World.alloc_heap_new w _
abbrev fnV (k : Nat) : Value := .func (.func k) #[] #[]
set_option maxRecDepth 100000 in
set_option maxHeartbeats 2000000 in
theorem reader_c (k : Int) (f : Nat) (hf : (k = 1 ∧ f = 81) ∨ (k = 2 ∧ f = 83)) (w : World) : Calls Tryz.prog 55 #[.int .i64 k] w fun e w' => e = .returned (.tuple #[fnV f, .bool true]) ∧ Below w.heap.size w w' := by
  have hmm : (Instr.makeMap 113 none).run Tryz.prog w = .ok (.map (some w.heap.size)) (w.alloc (.map #[] 0)) := run_makeMap _ w
  have h0 := new_map w
  have b0 : Below w.heap.size w (w.alloc (.map #[] 0)) := (Below.refl _ w).alloc (Nat.le_refl _) _
  obtain ⟨B1, r1, h1, c1⟩ := ins_map h0 1 (fnV 81) rfl
  have b1 := b0.trans (c1 w.heap.size (Nat.le_refl _))
  obtain ⟨B2, r2, h2, c2⟩ := ins_map h1 2 (fnV 83) rfl
  have b2 := b1.trans (c2 w.heap.size (Nat.le_refl _))
  have hl := look_map h2 k
  have el : ansF (ask k (([] ++ [(1, fnV 81)] ++ [(2, fnV 83)] : List (Int × Value)).zipIdx) 0) = .tuple #[fnV f, .bool true] := by
    rcases hf with ⟨rfl, rfl⟩ | ⟨rfl, rfl⟩ <;> rfl
  rw [el] at hl
  have HB := Lib.hid b2
  clear el h0 b0 h1 b1 h2 b2 c1 c2 hf
  go_enter Tryz.func55, Tryz.ntmps55
  go_wp2
  go_ret2
  exact ⟨rfl, HB.out⟩
end Go.Proofs.YthlkgfplffdiaaaGreatDoor.Ar
/- Two literals. -/
namespace Go.Proofs.YthlkgfplffdiaaaGreatDoor.Ar
open Go Go.RowKit Go.Shelf
attribute [local go_sem] Oper.semAt_some

/-- A list is told. -/
def Told (R : Bool) (ns : List Int) (w : World) (e : Ending) (w' : World) : Prop := ∃ sa sn sc, e = .returned (.tuple #[.agg #[.bool true, .bool R, .slice sa sn sc], .nilIface]) ∧ KL w' (.slice sa sn sc) ns ∧ Below w.heap.size w w'
set_option maxRecDepth 100000 in
set_option maxHeartbeats 1000000 in
theorem rd1_c (w : World) (hG : AG w) : Calls Tryz.prog 81 #[.string ⟨#[49, 32, 50, 32, 51]⟩] w fun e w' => Told false [1, 2, 3] w e w' := by
  have hb := (Below.refl w.heap.size w).alloc (Nat.le_refl _) (.cells #[.bool false, .bool false, .slice none 0 0] 24)
  obtain ⟨z, hz⟩ := (hG.below hb).mx
  have HN := Lib.hid (numbers_c _ z hz)
  have HB := Lib.hid hb
  have HR := Lib.hid (Row.new w 24 #[.bool false, .bool false, .slice none 0 0])
  clear hG hb hz
  go_enter Tryz.func81, Tryz.ntmps81
  go_wp2_with (go_at_call 82; refine HN.out.mono ?_; rintro e w2 ⟨sa, sn, sc, rfl, hk, hb2⟩; have HR2 := Lib.hid (HR.out.below hb2 HR.out.lt); obtain ⟨m0, m1, m2, m3, m4, m5⟩ := row3 HR2.out; have HK := Lib.hid hk; have HB2 := Lib.hid (HB.out.trans (hb2.mono HB.out.size)); clear hk hb2)
  obtain ⟨v0, v1, v2, -, -, -⟩ := row3 (row_set3 HR2.out (.bool true) (.bool false) (.slice sa sn sc))
  exact bodyPost_ret (v := .tuple #[.agg #[.bool true, .bool false, .slice sa sn sc], .nilIface]) (by simp [results, Tryz.f81, go_sem, v0, v1, v2]) rfl ⟨sa, sn, sc, rfl, kl_set3 HK.out HR2.out _ _ _, ((HB2.out.setCell (p := ⟨w.heap.size, 0, none⟩) (Nat.le_refl _) _).setCell (p := ⟨w.heap.size, 1, none⟩) (Nat.le_refl _) _).setCell (p := ⟨w.heap.size, 2, none⟩) (Nat.le_refl _) _⟩
set_option maxRecDepth 100000 in
set_option maxHeartbeats 1000000 in
theorem rd2_c (w : World) : Calls Tryz.prog 83 #[.string ⟨#[39, 97, 39, 39, 39]⟩] w fun e w' => Told true [97, 39] w e w' := by
  have hb := (Below.refl w.heap.size w).alloc (Nat.le_refl _) (.cells #[.bool false, .bool false, .slice none 0 0] 24)
  have HN := Lib.hid (runes_c (w.alloc (.cells #[.bool false, .bool false, .slice none 0 0] 24)))
  have HB := Lib.hid hb
  have HR := Lib.hid (Row.new w 24 #[.bool false, .bool false, .slice none 0 0])
  clear hb
  go_enter Tryz.func83, Tryz.ntmps83
  go_wp2_with (go_at_call 84; refine HN.out.mono ?_; rintro e w2 ⟨sa, sn, sc, rfl, hk, hb2⟩; have HR2 := Lib.hid (HR.out.below hb2 HR.out.lt); obtain ⟨m0, m1, m2, m3, m4, m5⟩ := row3 HR2.out; have HK := Lib.hid hk; have HB2 := Lib.hid (HB.out.trans (hb2.mono HB.out.size)); clear hk hb2)
  obtain ⟨v0, v1, v2, -, -, -⟩ := row3 (row_set3 HR2.out (.bool true) (.bool true) (.slice sa sn sc))
  exact bodyPost_ret (v := .tuple #[.agg #[.bool true, .bool true, .slice sa sn sc], .nilIface]) (by simp [results, Tryz.f83, go_sem, v0, v1, v2]) rfl ⟨sa, sn, sc, rfl, kl_set3 HK.out HR2.out _ _ _, ((HB2.out.setCell (p := ⟨w.heap.size, 0, none⟩) (Nat.le_refl _) _).setCell (p := ⟨w.heap.size, 1, none⟩) (Nat.le_refl _) _).setCell (p := ⟨w.heap.size, 2, none⟩) (Nat.le_refl _) _⟩
set_option maxRecDepth 100000 in
set_option maxHeartbeats 2000000 in
theorem literal_c (k : Int) (f : Nat) (t : ByteArray) (R : Bool) (ns : List Int) (hf : (k = 1 ∧ f = 81) ∨ (k = 2 ∧ f = 83)) (eo : ∀ args W, (callFunc f args).run Tryz.prog W = .ok (.enter f args) W) (hr : ∀ W, AG W → Calls Tryz.prog f #[.string t] W fun e w' => Told R ns W e w') (w : World) (hG : AG w) : Calls Tryz.prog 32 #[.int .i64 k, .string t] w fun e w' => Told R ns w e w' := by
  have hb := (Below.refl w.heap.size w).alloc (Nat.le_refl _) (.cells #[.bool false, .bool false, .slice none 0 0] 24)
  have HRD := Lib.hid (reader_c k f hf (w.alloc (.cells #[.bool false, .bool false, .slice none 0 0] 24)))
  have HGG : Hid (∀ W, Below w.heap.size w W → AG W) := Lib.hid (fun W h => hG.below h)
  have HF := Lib.hid hr
  have HB := Lib.hid hb
  have HR := Lib.hid (Row.new w 24 #[.bool false, .bool false, .slice none 0 0])
  clear hG hb hr hf
  go_enter Tryz.func32, Tryz.ntmps32
  go_wp2_with (first
    | (go_at_call 55; refine HRD.out.mono ?_; rintro e w1 ⟨rfl, hb1⟩; have HB1 := Lib.hid (HB.out.trans (hb1.mono HB.out.size)); have HR1 := Lib.hid (HR.out.below hb1 HR.out.lt); clear hb1)
    | (go_at_fn f; refine (HF.out _ (HGG.out _ HB1.out)).mono ?_; rintro e w2 ⟨sa, sn, sc, rfl, hk, hb2⟩; have HB3 := (Below.refl w2.heap.size w2).alloc (Nat.le_refl _) (.cells #[.bool true, .bool R, .slice sa sn sc] 24); have HR2 := Lib.hid ((HR1.out.below hb2 HR1.out.lt).alloc (.cells #[.bool true, .bool R, .slice sa sn sc] 24)); obtain ⟨m0, m1, m2, m3, m4, m5⟩ := row3 HR2.out; have HK := Lib.hid (hk.below HB3); have HBB := Lib.hid ((HB1.out.trans (hb2.mono HB1.out.size)).trans (HB3.mono (Nat.le_trans HB1.out.size hb2.size))); clear hk hb2 HB3))
  obtain ⟨v0, v1, v2, -, -, -⟩ := row3 (row_set3 HR2.out (.bool true) (.bool R) (.slice sa sn sc))
  exact bodyPost_ret (v := .tuple #[.agg #[.bool true, .bool R, .slice sa sn sc], .nilIface]) (by simp [results, Tryz.f32, go_sem, v0, v1, v2]) rfl ⟨sa, sn, sc, rfl, kl_set3 HK.out HR2.out _ _ _, ((HBB.out.setCell (p := ⟨w.heap.size, 0, none⟩) (Nat.le_refl _) _).setCell (p := ⟨w.heap.size, 1, none⟩) (Nat.le_refl _) _).setCell (p := ⟨w.heap.size, 2, none⟩) (Nat.le_refl _) _⟩
end Go.Proofs.YthlkgfplffdiaaaGreatDoor.Ar
