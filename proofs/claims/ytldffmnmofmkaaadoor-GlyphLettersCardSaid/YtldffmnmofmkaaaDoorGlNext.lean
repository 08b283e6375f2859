/- The sign that comes next in a text. -/
import Derived.Test.YtldffmnmofmkaaaDoorGlFirst
import Derived.OwnWalk
import Derived.Deep.RegionHeld
namespace Go.Proofs.YtldffmnmofmkaaaDoor
open Go Go.RowKit Go.Shelf

/-- How many bytes are ahead of the next sign. -/
def nextAt : List UInt8 → Nat
  | [] => 0
  | b :: r => match firstK (b :: r) with
    | some _ => 0
    | none => nextAt r + 1
theorem nextAt_le : ∀ T : List UInt8, nextAt T ≤ T.length
  | [] => Nat.le_refl _
  | b :: r => by
    have := nextAt_le r
    unfold nextAt
    split
    · exact Nat.zero_le _
    · simp only [List.length_cons]; omega
theorem nextAt_none : ∀ (T : List UInt8) (j : Nat), j < nextAt T → firstK (T.drop j) = none
  | [], j, h => by simp [nextAt] at h
  | b :: r, j, h => by
    unfold nextAt at h
    split at h
    · omega
    · rename_i hn
      cases j with
      | zero => exact hn
      | succ j => exact nextAt_none r j (by omega)
theorem nextAt_some : ∀ (T : List UInt8) (k : Nat), k < T.length → (∀ j, j < k → firstK (T.drop j) = none) → firstK (T.drop k) ≠ none → nextAt T = k
  | [], k, h, _, _ => by simp at h
  | b :: r, k, h, hn, hs => by
    cases k with
    | zero =>
      unfold nextAt
      rw [List.drop_zero] at hs
      split
      · rfl
      · rename_i hx; exact absurd hx hs
    | succ k =>
      have h0 := hn 0 (by omega)
      rw [List.drop_zero] at h0
      unfold nextAt
      rw [h0]
      dsimp only
      rw [nextAt_some r k (by simpa using h) (fun j hj => hn (j + 1) (by omega)) hs]
theorem nextAt_end : ∀ (T : List UInt8), (∀ j, j < T.length → firstK (T.drop j) = none) → nextAt T = T.length
  | [], _ => rfl
  | b :: r, hn => by
    have h0 := hn 0 (by simp)
    rw [List.drop_zero] at h0
    unfold nextAt
    rw [h0]
    dsimp only
    rw [nextAt_end r (fun j hj => hn (j + 1) (by simpa using hj)), List.length_cons]

theorem gl_drop (s : ByteArray) (k : Nat) : (s.extract k s.size).data.toList = s.data.toList.drop k := by
  rw [ByteArray.data_extract, Array.toList_extract]
  simp only [List.extract]
  rw [List.take_of_length_le]
  rw [List.length_drop, Lib.size_eq]
  exact Nat.le_refl _

set_option maxRecDepth 100000 in
set_option maxHeartbeats 4000000 in
theorem next_c (s : ByteArray) (hs : s.size ≤ 10000) (w : World) (hG : Ground w) :
    Calls Tryd.prog 35 #[.agg #[.string s]] w fun e W' => e = .returned (.tuple #[.int .i64 ((nextAt s.data.toList : Nat) : Int), optV (firstK (s.data.toList.drop (nextAt s.data.toList))), .int .i64 ((fsz (s.data.toList.drop (nextAt s.data.toList)) : Nat) : Int)]) ∧ Below w.heap.size w W' := by
  go_enter Tryd.func35, Tryd.ntmps35
  go_wp2_with fail
  rename_i K hK
  obtain ⟨h, hh⟩ : ∃ h, h = w.heap.size := ⟨_, rfl⟩
  obtain ⟨W0, hW0⟩ : ∃ W0, ((w.alloc (.cells #[.string s] 44)).alloc (.cells #[.string ⟨#[]⟩, .string ⟨#[]⟩, .int .i64 0] 36)) = W0 := ⟨_, rfl⟩
  have r0 : Row W0 (w.heap.size) 44 #[.string s] := by rw [← hW0]; exact (Row.new _ _ _).alloc _
  have r1 : Row W0 (w.heap.size + 1) 36 #[.string ⟨#[]⟩, .string ⟨#[]⟩, .int .i64 0] := by rw [← hW0]; exact Row.at _ _ _ _ (by simp)
  have hB0 : Below w.heap.size w W0 := by rw [← hW0]; exact ((Below.refl _ w).alloc (Nat.le_refl _) _).alloc (by simp) _
  have hsz : W0.heap.size = w.heap.size + 2 := by rw [← hW0]; simp
  have hG0 := hG.below hB0
  have hgl := hG.lt
  rw [hW0]
  clear hW0
  rw [← hh] at r0 r1 hB0 hsz hgl ⊢
  have HH := Lib.hid hh
  have hsz1 : h + 2 ≤ W0.heap.size := by omega
  have HG := Lib.hid hG0
  clear hh hsz hG hG0
  go_loopw [11] (fun i wr => ∃ k : Nat, k ≤ s.size ∧ i = .int .i64 k ∧ Row wr h 44 #[.string s] ∧ Row wr (h + 1) 36 #[.string ⟨#[]⟩, .string ⟨#[]⟩, .int .i64 0] ∧ Below h w wr ∧ h + 2 ≤ wr.heap.size ∧ (∀ j, j < k → firstK (s.data.toList.drop j) = none) ∧ Ground wr)
    (fun i _ => s.size - (intOf i).toNat)
  case atStart => exact ⟨0, Nat.zero_le _, rfl, r0, r1, hB0, hsz1, fun j hj => by omega, HG.out⟩
  case round =>
    obtain ⟨k, hk, rfl, r0, r1, hB1, hs1, hn, hG1⟩ := hrel
    have c0 := r0.cell 0
    simp at c0
    have HN := Lib.hid hn
    have HB := Lib.hid hB1
    have R0 := Lib.hid r0
    have R1 := Lib.hid r1
    clear hn hB1 r0 r1
    by_cases hlt : k < s.size
    · have hF := fun W (hW : Ground W) => first_c (s.extract k s.size) W hW
      rw [gl_drop] at hF
      have HF := Lib.hid hF
      clear hF
      cases hfk : firstK (s.data.toList.drop k) with
      | none =>
        rw [hfk] at HF
        dsimp only [optV] at HF
        have HFK := Lib.hid hfk
        clear hfk
        go_wp2_with (go_at_call 26; refine (HF.out _ hG1).mono ?_; rintro e w' ⟨rfl, hb⟩; have HBB := Lib.hid hb; clear hb)
        go_roundw
        case rel =>
          have hb := HBB.out
          refine ⟨k + 1, by omega, by simp, (R0.out.below hb R0.out.lt).alloc _, (R1.out.below hb R1.out.lt).alloc _, (HB.out.trans (hb.mono (by omega))).alloc (by have := hb.size; omega) _, by have := hb.size; simp; omega, fun j hj => ?_, ?_⟩
          · rcases Nat.lt_or_ge j k with h1 | h1
            · exact HN.out j h1
            · obtain rfl : j = k := by omega
              exact HFK.out
          · exact (hG1.below hb).below ((Below.refl _ w').alloc (Nat.le_refl _) _)
        case measure => simp [intOf]; omega
      | some j =>
        have hj38 := (firstK_some.1 hfk).1
        have hsz3 := fsz_le3 (s.data.toList.drop k)
        have HNA : Hid (nextAt s.data.toList = k) := Lib.hid (nextAt_some _ k (by rw [← Lib.size_eq]; exact hlt) HN.out (by rw [hfk]; exact fun e => by cases e))
        rw [hfk] at HF
        dsimp only [optV, signV] at HF
        obtain ⟨z, hz⟩ : ∃ z, z = fsz (s.data.toList.drop k) := ⟨_, rfl⟩
        obtain ⟨g, hgd⟩ : ∃ g, g = bs (gl j) := ⟨_, rfl⟩
        obtain ⟨d, hdd⟩ : ∃ d, d = bs (di j) := ⟨_, rfl⟩
        obtain ⟨c, hcd⟩ : ∃ c : Int, c = ((cl j : Nat) : Int) := ⟨_, rfl⟩
        have hgn : g.toList.isEmpty = false := by rw [hgd]; exact (by decide +kernel : ∀ k, k < 38 → (bs (gl k)).toList.isEmpty = false) j hj38
        rw [← hgd, ← hdd, ← hcd, ← hz] at HF
        have HE : Hid (optV (firstK (s.data.toList.drop k)) = .agg #[.string g, .string d, .int .i64 c]) := Lib.hid (by rw [hfk, hgd, hdd, hcd]; rfl)
        have HZ := Lib.hid hz
        clear hfk hz hgd hdd hcd
        go_wp2_with (go_at_call 26; refine (HF.out _ hG1).mono ?_; rintro e w' ⟨rfl, hb⟩; have r1 := R1.out.below hb R1.out.lt; have c1a := r1.cell 0; have c1b := r1.cell 1; have c1c := r1.cell 2; have f1a := r1.frozen 0; have f1b := r1.frozen 1; have f1c := r1.frozen 2; have l1 := r1.lt; have HR1 := Lib.hid r1; simp at c1a c1b c1c; clear r1; have HBB := Lib.hid hb; clear hb)
        go_region
        all_goals
          go_wp2
          have rV := ((((HR1.out.set 0 (.string g)).set 1 (.string d)).set 2 (.int .i64 c)).alloc (.cells #[.string g, .string d, .int .i64 c] 36)).drew
          have hV : Below h w _ := (((((HB.out.trans (HBB.out.mono (by omega))).setCell (p := ⟨h + 1, 0, none⟩) (by dsimp only; omega) (.string g)).setCell (p := ⟨h + 1, 1, none⟩) (by dsimp only; omega) (.string d)).setCell (p := ⟨h + 1, 2, none⟩) (by dsimp only; omega) (.int .i64 c)).alloc (by have := HBB.out.size; simp; omega) (.cells #[.string g, .string d, .int .i64 c] 36)).drew
          obtain ⟨V, hVe⟩ : ∃ V, V = ((((w'.setCell ⟨h + 1, 0, none⟩ (.string g)).setCell ⟨h + 1, 1, none⟩ (.string d)).setCell ⟨h + 1, 2, none⟩ (.int .i64 c)).alloc (.cells #[.string g, .string d, .int .i64 c] 36)).drew := ⟨_, rfl⟩
          rw [← hVe] at rV hV ⊢
          have d0 := rV.cell 0
          have d1 := rV.cell 1
          have d2 := rV.cell 2
          simp at d0 d1 d2
          refine bodyPost_ret (v := .tuple #[.int .i64 (k : Int), .agg #[.string g, .string d, .int .i64 c], .int .i64 (z : Int)]) (by simp [results, Tryd.f35, go_sem, d0, d1, d2]) rfl ⟨?_, ?_⟩
          · rw [HNA.out, HE.out, ← HZ.out]
          · rw [← HH.out]
            exact hV
    · obtain rfl : k = s.size := by omega
      have HNA : Hid (nextAt s.data.toList = s.size) := Lib.hid (by rw [nextAt_end _ (fun j hj => HN.out j (by rw [Lib.size_eq]; exact hj)), Lib.size_eq])
      have HEND : Hid (s.data.toList.drop s.size = []) := Lib.hid (List.drop_of_length_le (by rw [Lib.size_eq]; exact Nat.le_refl _))
      have r1 := R1.out
      have c1a := r1.cell 0
      have c1b := r1.cell 1
      have c1c := r1.cell 2
      have f1a := r1.frozen 0
      have f1b := r1.frozen 1
      have f1c := r1.frozen 2
      simp at c1a c1b c1c
      clear r1
      go_wp2
      have rV := ((R1.out.set 0 (.string ⟨#[]⟩)).set 1 (.string ⟨#[]⟩)).set 2 (.int .i64 0)
      have hV : Below h w _ := ((HB.out.setCell (p := ⟨h + 1, 0, none⟩) (by dsimp only; omega) (.string ⟨#[]⟩)).setCell (p := ⟨h + 1, 1, none⟩) (by dsimp only; omega) (.string ⟨#[]⟩)).setCell (p := ⟨h + 1, 2, none⟩) (by dsimp only; omega) (.int .i64 0)
      obtain ⟨V, hVe⟩ : ∃ V, V = ((wr.setCell ⟨h + 1, 0, none⟩ (.string ⟨#[]⟩)).setCell ⟨h + 1, 1, none⟩ (.string ⟨#[]⟩)).setCell ⟨h + 1, 2, none⟩ (.int .i64 0) := ⟨_, rfl⟩
      rw [← hVe] at rV hV ⊢
      have d0 := rV.cell 0
      have d1 := rV.cell 1
      have d2 := rV.cell 2
      simp at d0 d1 d2
      refine bodyPost_ret (v := .tuple #[.int .i64 (s.size : Int), .agg #[.string ⟨#[]⟩, .string ⟨#[]⟩, .int .i64 0], .int .i64 0]) (by simp [results, Tryd.f35, go_sem, d0, d1, d2]) rfl ⟨?_, ?_⟩
      · rw [HNA.out, HEND.out]; rfl
      · rw [← HH.out]
        exact hV
end Go.Proofs.YtldffmnmofmkaaaDoor
