/- The plain answers of stage 11: runes, rightness, one item, one answer. -/
import Derived.Test.YthlkgfplffdiaaaGreatDoorArItF
import Derived.Test.YthlkgfplffdiaaaGreatDoorNuR
namespace Go.Proofs.YthlkgfplffdiaaaGreatDoor.Ar
open Go Go.RowKit Go.Shelf
attribute [local go_sem] Oper.semAt_some

set_option maxRecDepth 100000 in
set_option maxHeartbeats 1000000 in
theorem risRune_c (r : Int) (w : World) : Calls Tryz.prog 42 #[.int .i64 r] w fun e w' => e = .returned (.bool (runeN r)) ∧ w = w' := by
  rcases (by omega : r < 0 ∨ (0 ≤ r ∧ r < 55296) ∨ (55296 ≤ r ∧ r ≤ 57343) ∨ (57343 < r ∧ r ≤ 1114111) ∨ 1114111 < r) with h | h | h | h | h
  · rw [show runeN r = false by simp [runeN]; omega]
    have t1 : decide (0 ≤ r) = false := decide_eq_false (by omega)
    go_enter Tryz.func42, Tryz.ntmps42
    go_wp2
    go_ret
    exact ⟨rfl, rfl⟩
  · rw [show runeN r = true by simp [runeN]; omega]
    have t1 : decide (0 ≤ r) = true := decide_eq_true (by omega)
    have t2 : decide (r ≤ 1114111) = true := decide_eq_true (by omega)
    have t3 : decide (r < 55296) = true := decide_eq_true (by omega)
    go_enter Tryz.func42, Tryz.ntmps42
    go_wp2
    go_ret
    exact ⟨rfl, rfl⟩
  · rw [show runeN r = false by simp [runeN]; omega]
    have t1 : decide (0 ≤ r) = true := decide_eq_true (by omega)
    have t2 : decide (r ≤ 1114111) = true := decide_eq_true (by omega)
    have t3 : decide (r < 55296) = false := decide_eq_false (by omega)
    have t4 : decide (57343 < r) = false := decide_eq_false (by omega)
    go_enter Tryz.func42, Tryz.ntmps42
    go_wp2
    go_ret
    exact ⟨rfl, rfl⟩
  · rw [show runeN r = true by simp [runeN]; omega]
    have t1 : decide (0 ≤ r) = true := decide_eq_true (by omega)
    have t2 : decide (r ≤ 1114111) = true := decide_eq_true (by omega)
    have t3 : decide (r < 55296) = false := decide_eq_false (by omega)
    have t4 : decide (57343 < r) = true := decide_eq_true (by omega)
    go_enter Tryz.func42, Tryz.ntmps42
    go_wp2
    go_ret
    exact ⟨rfl, rfl⟩
  · rw [show runeN r = false by simp [runeN]; omega]
    have t1 : decide (0 ≤ r) = true := decide_eq_true (by omega)
    have t2 : decide (r ≤ 1114111) = false := decide_eq_false (by omega)
    go_enter Tryz.func42, Tryz.ntmps42
    go_wp2
    go_ret
    exact ⟨rfl, rfl⟩
theorem right_long {L R : Bool} {N : List Int} (hr : R = false ∨ ∀ x ∈ N, runeN x = true) : rightA ⟨L, R, N⟩ = (if L then decide (N.length ≤ 200) else decide (N.length = 1)) := by
  unfold rightA cntA
  dsimp only
  rcases hr with h | h
  · rw [h]; simp
  · rw [List.all_eq_true.2 h]; simp
set_option maxRecDepth 100000 in
set_option maxHeartbeats 4000000 in
theorem rright_c (a : Ary) (s : Value) (w : World) (hs : KL w s a.n) : Calls Tryz.prog 23 #[aryV a s] w fun e w' => e = .returned (.bool (rightA a)) ∧ Below w.heap.size w w' := by
  obtain ⟨L, R, N⟩ := a
  have hcs := hs.cells
  obtain ⟨a0, c0, rfl, h1, h2⟩ := hs.form
  unfold maxLen at h2
  dsimp only [aryV] at *
  obtain ⟨n, hn⟩ : ∃ n, n = N.length := ⟨_, rfl⟩
  rw [← hn] at hcs h1 ⊢
  have HCC : Hid (0 < n → ∃ g o c, Value.slice a0 n c0 = .slice (some ⟨g, o, none⟩) n c ∧ ∀ j x, N[j]? = some x → (w.alloc (.cells #[.bool L, .bool R, .slice a0 n c0] 24)).cell? ⟨g, o + j, none⟩ = some (.int .i64 x)) := Lib.hid (fun h0 => by
    obtain ⟨g, o, c, e, hg, hc⟩ := hcs h0
    exact ⟨g, o, c, e, fun j x hj => (World.cell?_alloc_lt _ _ _ hg).trans (hc j x hj)⟩)
  have HN := Lib.hid hn
  have HB : Hid (Below w.heap.size w (w.alloc (.cells #[.bool L, .bool R, .slice a0 n c0] 24))) := Lib.hid ((Below.refl _ w).alloc (Nat.le_refl _) _)
  have HRU := Lib.hid risRune_c
  obtain ⟨b, hbe⟩ : ∃ b, b = rightA ⟨L, R, N⟩ := ⟨_, rfl⟩
  rw [← hbe]
  have HL : Hid ((R = false ∨ ∀ x ∈ N, runeN x = true) → b = (if L then decide ((n : Int) ≤ 200) else decide ((n : Int) = 1))) := Lib.hid (fun h => by
    rw [hbe, right_long h, hn]
    split
    · rw [decide_eq_decide]; omega
    · rw [decide_eq_decide]; omega)
  have HF : Hid (R = true → ∀ x ∈ N, runeN x = false → b = false) := Lib.hid (fun h x hx hr => by
    rw [hbe]
    unfold rightA
    dsimp only
    rw [h, show N.all runeN = false from List.all_eq_false.2 ⟨x, hx, by rw [hr]; decide⟩]
    simp)
  clear hs hcs hn hbe
  cases R
  · have HE := Lib.hid (HL.out (.inl rfl))
    clear HL HF
    go_enter Tryz.func23, Tryz.ntmps23
    go_wp2_with fail
    go_loop [3] (fun i => i = .int .i64 0) (fun i => 1 - (intOf i).toNat)
    case atStart => exact rfl
    case round =>
      obtain rfl := hrel
      by_cases h0 : (0 : Int) < (n : Int)
      · have t1 : decide ((0 : Int) < (n : Int)) = true := decide_eq_true h0
        cases L
        · have e := HE.out
          rw [if_neg (by decide)] at e
          clear HE
          by_cases h5 : (n : Int) = 1
          · rw [decide_eq_true h5] at e
            subst e
            have t5 : ((n : Int) == 1) = true := by simpa using h5
            go_wp2_with fail
            go_ret
            exact ⟨rfl, HB.out⟩
          · rw [decide_eq_false h5] at e
            subst e
            have t5 : ((n : Int) == 1) = false := by simpa using h5
            go_wp2_with fail
            go_ret
            exact ⟨rfl, HB.out⟩
        · have e := HE.out
          rw [if_pos rfl] at e
          clear HE
          by_cases h5 : (n : Int) ≤ 200
          · rw [decide_eq_true h5] at e
            subst e
            have t5 : decide ((n : Int) ≤ 200) = true := by simpa using h5
            go_wp2_with fail
            go_ret
            exact ⟨rfl, HB.out⟩
          · rw [decide_eq_false h5] at e
            subst e
            have t5 : decide ((n : Int) ≤ 200) = false := by simpa using h5
            go_wp2_with fail
            go_ret
            exact ⟨rfl, HB.out⟩
      · have t1 : decide ((0 : Int) < (n : Int)) = false := decide_eq_false h0
        cases L
        · have e := HE.out
          rw [if_neg (by decide)] at e
          clear HE
          by_cases h5 : (n : Int) = 1
          · exfalso; omega
          · rw [decide_eq_false h5] at e
            subst e
            have t5 : ((n : Int) == 1) = false := by simpa using h5
            go_wp2_with fail
            go_ret
            exact ⟨rfl, HB.out⟩
        · have e := HE.out
          rw [if_pos rfl] at e
          clear HE
          by_cases h5 : (n : Int) ≤ 200
          · rw [decide_eq_true h5] at e
            subst e
            have t5 : decide ((n : Int) ≤ 200) = true := by simpa using h5
            go_wp2_with fail
            go_ret
            exact ⟨rfl, HB.out⟩
          · exfalso; omega
  · have HFB := Lib.hid (HF.out rfl)
    clear HF
    go_enter Tryz.func23, Tryz.ntmps23
    go_wp2_with fail
    go_loop [3] (fun i => ∃ k : Nat, k ≤ n ∧ i = .int .i64 (k : Int) ∧ ∀ x ∈ N.take k, runeN x = true) (fun i => n - (intOf i).toNat)
    case atStart => exact ⟨0, Nat.zero_le _, rfl, by simp⟩
    case round =>
      obtain ⟨k, hk, rfl, hno⟩ := hrel
      have HNO := Lib.hid hno
      clear hno
      by_cases hlt : k < n
      · obtain ⟨g, o, c1, e, hc⟩ := HCC.out (by omega)
        injection e with e1 e2 e3
        subst e1 e3
        obtain ⟨x, hx⟩ := at_of (L := N) (k := k) (by rw [← HN.out]; exact hlt)
        have c := hc k x hx
        have HX := Lib.hid hx
        have hz : (0 : Int) ≤ (k : Int) := Int.natCast_nonneg _
        have hzn : (k : Int) < (n : Int) := by omega
        clear hc hx e2
        cases hr : runeN x
        · have HR := Lib.hid hr
          clear hr
          go_wp2_with (go_at_call 42; refine (HRU.out _ _).mono ?_; rintro e w' ⟨rfl, rfl⟩; rw [HR.out])
          go_ret
          exact ⟨by rw [HFB.out x (List.mem_of_getElem? HX.out) HR.out]; rfl, HB.out⟩
        · have HR := Lib.hid hr
          clear hr
          go_wp2_with (go_at_call 42; refine (HRU.out _ _).mono ?_; rintro e w' ⟨rfl, rfl⟩; rw [HR.out])
          go_round
          case rel =>
            refine ⟨k + 1, by omega, by go_num, fun y hy => ?_⟩
            rw [List.take_add_one, HX.out, List.mem_append] at hy
            rcases hy with hy | hy
            · exact HNO.out y hy
            · simp at hy
              rw [hy]
              exact HR.out
          case measure => simp [intOf]; omega
      · have hkn : k = n := by omega
        subst hkn
        have HE := Lib.hid (HL.out (.inr (by have h := HNO.out; rw [HN.out, List.take_length] at h; exact h)))
        clear HL HFB
        have t1 : decide ((k : Int) < (k : Int)) = false := decide_eq_false (by omega)
        cases L
        · have e := HE.out
          rw [if_neg (by decide)] at e
          clear HE
          by_cases h5 : (k : Int) = 1
          · rw [decide_eq_true h5] at e
            subst e
            have t5 : ((k : Int) == 1) = true := by simpa using h5
            go_wp2_with fail
            go_ret
            exact ⟨rfl, HB.out⟩
          · rw [decide_eq_false h5] at e
            subst e
            have t5 : ((k : Int) == 1) = false := by simpa using h5
            go_wp2_with fail
            go_ret
            exact ⟨rfl, HB.out⟩
        · have e := HE.out
          rw [if_pos rfl] at e
          clear HE
          by_cases h5 : (k : Int) ≤ 200
          · rw [decide_eq_true h5] at e
            subst e
            have t5 : decide ((k : Int) ≤ 200) = true := by simpa using h5
            go_wp2_with fail
            go_ret
            exact ⟨rfl, HB.out⟩
          · rw [decide_eq_false h5] at e
            subst e
            have t5 : decide ((k : Int) ≤ 200) = false := by simpa using h5
            go_wp2_with fail
            go_ret
            exact ⟨rfl, HB.out⟩
set_option maxRecDepth 100000 in
set_option maxHeartbeats 4000000 in
theorem ritem_c (a : Ary) (i : Nat) (s : Value) (w : World) (hs : KL w s a.n) (hi : if a.list then i < a.n.length else 0 < a.n.length) : Calls Tryz.prog 29 #[aryV a s, .int .i64 (i : Nat)] w fun e w' => e = .returned (.int .i64 (itemA a i)) ∧ Below w.heap.size w w' := by
  obtain ⟨L, R, N⟩ := a
  dsimp only at hi hs ⊢
  obtain ⟨g, o, sc, rfl, hg, hc⟩ := hs.cells (by split at hi <;> omega)
  obtain ⟨n, hn⟩ : ∃ n, n = N.length := ⟨_, rfl⟩
  have h2 : n ≤ maxLen := by obtain ⟨_, _, e, h1, h2⟩ := hs.form; omega
  unfold maxLen at h2
  rw [← hn] at hi ⊢
  have HB : Hid (Below w.heap.size w (w.alloc (.cells #[.bool L, .bool R, .slice (some ⟨g, o, none⟩) n sc] 24))) := Lib.hid ((Below.refl _ w).alloc (Nat.le_refl _) _)
  cases L
  · simp only [Bool.false_eq_true, if_false] at hi
    obtain ⟨x, hx⟩ := at_of (L := N) (k := 0) (by omega)
    have c0 := hc 0 x hx
    rw [Nat.add_zero] at c0
    have c0 : (w.alloc (.cells #[.bool false, .bool R, .slice (some ⟨g, o, none⟩) n sc] 24)).cell? ⟨g, o, none⟩ = some (.int .i64 x) := (World.cell?_alloc_lt _ _ _ hg).trans c0
    have HX : Hid (itemA ⟨false, R, N⟩ i = x) := Lib.hid (by simp [itemA, List.getD_eq_getElem?_getD, hx])
    clear hc hs hx hn
    go_enter Tryz.func29, Tryz.ntmps29
    go_wp2
    go_ret
    exact ⟨by rw [HX.out]; rfl, HB.out⟩
  · simp only [if_true] at hi
    obtain ⟨x, hx⟩ := at_of (L := N) (k := i) (by omega)
    have c0 := hc i x hx
    have c0 : (w.alloc (.cells #[.bool true, .bool R, .slice (some ⟨g, o, none⟩) n sc] 24)).cell? ⟨g, o + i, none⟩ = some (.int .i64 x) := (World.cell?_alloc_lt _ _ _ hg).trans c0
    have HX : Hid (itemA ⟨true, R, N⟩ i = x) := Lib.hid (by simp [itemA, List.getD_eq_getElem?_getD, hx])
    clear hc hs hx hn
    go_enter Tryz.func29, Tryz.ntmps29
    go_wp2
    go_ret
    exact ⟨by rw [HX.out]; rfl, HB.out⟩
set_option maxRecDepth 100000 in
set_option maxHeartbeats 4000000 in
theorem rone_c (g : ByteArray) (x y : Int) (hx : Nu.In x) (hy : Nu.In y) (k : Bool) (w : World) : Calls Tryz.prog 28 #[.string g, .int .i64 x, .int .i64 y, .bool k] w fun e w' => e = .returned (Nu.numV (if k then Nu.dyN (Nu.whichD g) x y else Nu.dyN (Nu.whichD g) 0 1)) ∧ Below w.heap.size w w' := by
  cases k
  · have HD := Lib.hid (fun W => Nu.rdy_c g 0 1 (by decide) (by decide) W)
    clear hx hy
    go_enter Tryz.func28, Tryz.ntmps28
    go_wp2_with fail
    refine (HD.out _).mono ?_
    rintro e w' ⟨rfl, hb⟩
    have HB := Lib.hid hb
    clear hb
    unfold Nu.numV
    go_wp2_with fail
    exact bodyPost_ret (v := Nu.numV (Nu.dyN (Nu.whichD g) 0 1)) (by simp [results, Tryz.f28, go_sem, Nu.numV]) rfl ⟨by simp, HB.out⟩
  · have HD := Lib.hid (fun W => Nu.rdy_c g x y hx hy W)
    clear hx hy
    go_enter Tryz.func28, Tryz.ntmps28
    go_wp2_with fail
    refine (HD.out _).mono ?_
    rintro e w' ⟨rfl, hb⟩
    have HB := Lib.hid hb
    clear hb
    unfold Nu.numV
    go_wp2_with fail
    exact bodyPost_ret (v := Nu.numV (Nu.dyN (Nu.whichD g) x y)) (by simp [results, Tryz.f28, go_sem, Nu.numV]) rfl ⟨by simp, HB.out⟩
end Go.Proofs.YthlkgfplffdiaaaGreatDoor.Ar
