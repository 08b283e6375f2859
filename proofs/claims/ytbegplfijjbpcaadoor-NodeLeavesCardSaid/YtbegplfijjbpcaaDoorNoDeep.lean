/- The plain Right of any length; how deep a tree is, and the first place that it reaches. -/
import Derived.Test.YtbegplfijjbpcaaDoorNoRight
namespace Go.Proofs.YtbegplfijjbpcaaDoor.No
open Go Go.RowKit Go.Shelf
attribute [local go_sem] Oper.semAt_some

set_option maxHeartbeats 4000000 in
set_option maxRecDepth 100000 in
/-- Right(t), of no node or too many. -/
theorem right_out (v : Value) (T : List Nd) (w : World) (hT : NL w v T) (hp : T.length < 1 ∨ 400 < T.length) :
    Calls Tryd.prog 12 #[v] w fun e W' => e = .returned (.bool (rightB T)) ∧ Below w.heap.size w W' := by
  obtain ⟨a0, c0, rfl, hc1, hc2⟩ := hT.form
  unfold maxLen at hc2
  have hr : rightB T = false := right_no (fun h => by have := h.pos; have := h.max; omega)
  rw [hr]
  obtain ⟨n, hn⟩ : ∃ n, n = T.length := ⟨_, rfl⟩
  rw [← hn] at hc1 hp ⊢
  have HD := Lib.hid (Below.refl w.heap.size w)
  clear hT hn hr
  rcases Nat.lt_or_ge n 1 with h1 | h1
  · have t1 : (n : Int) < 1 := by omega
    go_enter Tryd.func12, Tryd.ntmps12
    go_wp2
    go_ret
    exact ⟨rfl, HD.out⟩
  · have t1 : ¬ (n : Int) < 1 := by omega
    have t2 : (400 : Int) < (n : Int) := by omega
    go_enter Tryd.func12, Tryd.ntmps12
    go_wp2
    go_ret
    exact ⟨rfl, HD.out⟩
/-- Right(t). -/
theorem right_c (v : Value) (T : List Nd) (w : World) (hT : NL w v T) (hk : (allKids T).length ≤ 1000000) :
    Calls Tryd.prog 12 #[v] w fun e W' => e = .returned (.bool (rightB T)) ∧ Below w.heap.size w W' := by
  by_cases h : T.length < 1 ∨ 400 < T.length
  · exact right_out v T w hT h
  · exact right_ok v T w hT (by omega) (by omega) hk

/-! ### How deep -/
def KidsOk (T : List Nd) : Prop := ∀ (i : Nat) (x : Nd), T[i]? = some x → ∀ a ∈ x.kids, 0 ≤ a ∧ a < (i : Int)
theorem RightT.kidsOk {T : List Nd} (h : RightT T) : KidsOk T := fun _ _ hx => h.kid hx
theorem foldl_max_le : ∀ (l : List Nat) (a b : Nat), (∀ x ∈ l, x ≤ b) → a ≤ b → l.foldl max a ≤ b
  | [], _, _, _, h => h
  | c :: l, a, b, h, ha => foldl_max_le l (max a c) b (fun x hx => h x (List.mem_cons_of_mem _ hx)) (Nat.max_le.2 ⟨ha, h c (List.mem_cons_self ..)⟩)
theorem foldl_min_le : ∀ (l : List Nat) (a b : Nat), a ≤ b → l.foldl min a ≤ b
  | [], _, _, h => h
  | c :: l, a, b, ha => foldl_min_le l (min a c) b (Nat.le_trans (Nat.min_le_left _ _) ha)
def accD (T : List Nd) (l : List Int) : Nat := (l.map fun k => val deepC 0 T k.toNat).foldl max 0
theorem accD_snoc (T : List Nd) (l : List Int) (a : Int) : accD T (l ++ [a]) = max (accD T l) (val deepC 0 T a.toNat) := by simp [accD]
def accF (T : List Nd) (i : Nat) (l : List Int) : Nat := (l.map fun k => val firstC 0 T k.toNat).foldl min i
theorem accF_snoc (T : List Nd) (i : Nat) (l : List Int) (a : Int) : accF T i (l ++ [a]) = min (accF T i l) (val firstC 0 T a.toNat) := by simp [accF]
theorem deep_eq {T : List Nd} (h : KidsOk T) {i : Nat} {x : Nd} (hx : T[i]? = some x) : val deepC 0 T i = accD T x.kids + 1 := val_eq deepC 0 hx (h i x hx)
theorem first_eq {T : List Nd} (h : KidsOk T) {i : Nat} {x : Nd} (hx : T[i]? = some x) : val firstC 0 T i = accF T i x.kids := val_eq firstC 0 hx (h i x hx)
theorem deep_le {T : List Nd} (h : KidsOk T) : ∀ i, i < T.length → val deepC 0 T i ≤ i + 1 := by
  intro i
  induction i using Nat.strongRecOn with
  | _ i ih =>
    intro hi
    obtain ⟨x, hx⟩ : ∃ x, T[i]? = some x := ⟨_, List.getElem?_eq_getElem hi⟩
    rw [deep_eq h hx]
    have : accD T x.kids ≤ i := by
      refine foldl_max_le _ _ _ (fun y hy => ?_) (Nat.zero_le _)
      obtain ⟨k, hk, rfl⟩ := List.mem_map.1 hy
      have h1 := h i x hx k hk
      have := ih k.toNat (by omega) (by omega)
      omega
    omega
theorem accD_le {T : List Nd} (h : KidsOk T) {i : Nat} {x : Nd} (hx : T[i]? = some x) (j : Nat) : accD T (x.kids.take j) ≤ i := by
  refine foldl_max_le _ _ _ (fun y hy => ?_) (Nat.zero_le _)
  obtain ⟨k, hk, rfl⟩ := List.mem_map.1 hy
  have h1 := h i x hx k (List.mem_of_mem_take hk)
  have hi := (List.getElem?_eq_some_iff.1 hx).1
  have := deep_le h k.toNat (by omega)
  omega
theorem first_le {T : List Nd} (h : KidsOk T) {i : Nat} (hi : i < T.length) : val firstC 0 T i ≤ i := by
  obtain ⟨x, hx⟩ : ∃ x, T[i]? = some x := ⟨_, List.getElem?_eq_getElem hi⟩
  rw [first_eq h hx]
  exact foldl_min_le _ _ _ (Nat.le_refl _)
theorem accF_le (T : List Nd) (i : Nat) (l : List Int) : accF T i l ≤ i := foldl_min_le _ _ _ (Nat.le_refl _)

set_option maxHeartbeats 4000000 in
set_option maxRecDepth 100000 in
/-- deep(t, at). -/
theorem deep_c (v : Value) (T : List Nd) (hN : KidsOk T) : ∀ (i : Nat), i < T.length → ∀ w, NL w v T →
    Calls Tryd.prog 34 #[v, .int .i64 (i : Int)] w fun e W' => e = .returned (.int .i64 ((val deepC 0 T i : Nat) : Int)) ∧ Below w.heap.size w W' := by
  intro i
  induction i using Nat.strongRecOn with
  | _ i ih =>
  intro hi w hT
  have HIH : Hid (∀ j, j < i → ∀ w, NL w v T → Calls Tryd.prog 34 #[v, .int .i64 (j : Int)] w fun e W' => e = .returned (.int .i64 ((val deepC 0 T j : Nat) : Int)) ∧ Below w.heap.size w W') := Lib.hid (fun j hj w h => ih j hj (by omega) w h)
  clear ih
  obtain ⟨x, hx⟩ : ∃ x, T[i]? = some x := ⟨_, List.getElem?_eq_getElem hi⟩
  have hD := deep_eq hN hx
  have HACC : Hid (∀ j, accD T (x.kids.take j) ≤ i) := Lib.hid (accD_le hN hx)
  have HKI : Hid (∀ a ∈ x.kids, 0 ≤ a ∧ a < (i : Int)) := Lib.hid (hN i x hx)
  have HTB : Hid (∀ W, Below w.heap.size w W → NL W v T) := Lib.hid (fun W hW => hT.below hW)
  obtain ⟨a0, c0, rfl, hc1, hc2⟩ := hT.form
  unfold maxLen at hc2
  obtain ⟨g, o, c1, hv, hg, hcs⟩ := hT.cells (by omega)
  obtain rfl : a0 = some ⟨g, o, none⟩ := by injection hv
  obtain ⟨x0, x1, kx, x2, xk⟩ := hcs i x hx
  obtain ⟨ka, kc, rfl, hl1, hl2⟩ := xk.form
  unfold maxLen at hl2
  obtain ⟨n, hn⟩ : ∃ n, n = T.length := ⟨_, rfl⟩
  obtain ⟨K, hK⟩ : ∃ n, n = x.kids.length := ⟨_, rfl⟩
  obtain ⟨R, hR⟩ : ∃ n, n = val deepC 0 T i := ⟨_, rfl⟩
  rw [← hR] at hD ⊢
  rw [← hn] at hc1 hi HIH HTB ⊢
  have HN := Lib.hid hn
  have HK := Lib.hid hK
  have HD := Lib.hid hD
  have HXK := Lib.hid xk
  have HCX : Hid (∀ W, Below w.heap.size w W → W.cell? ⟨g, o + i * 3 + 2, none⟩ = some (.slice ka K kc)) := Lib.hid (fun W hW => by
    rw [hK]
    exact (hW.cell (p := ⟨g, o + i * 3 + 2, none⟩) hg).trans x2)
  rw [← hK] at hl1
  have HB0 := Lib.hid (Below.refl w.heap.size w)
  clear hT hv hcs x0 x1 x2 xk hx hn hK hD hR hN
  go_enter Tryd.func34, Tryd.ntmps34
  go_wp2
  go_loopw [5, 6] (fun m k w' => ∃ j q : Nat, j ≤ K ∧ k = .int .i64 j ∧ m = .int .i64 q ∧ q = accD T (x.kids.take j) ∧ Below w.heap.size w w') (fun _ k _ => K - (intOf k).toNat)
  case atStart => exact ⟨0, 0, Nat.zero_le _, rfl, rfl, rfl, HB0.out⟩
  case round =>
    obtain ⟨j, q, hj, rfl, rfl, hq, hB⟩ := hrel
    have HB := Lib.hid hB
    have HQ := Lib.hid hq
    have hqi : q ≤ i := by rw [hq]; exact HACC.out j
    have e0 := HCX.out wr hB
    by_cases hjK : j < K
    · obtain ⟨gk, ok, ck, hv, hgk, hck⟩ := HXK.out.cells (by rw [← HK.out]; omega)
      rw [← HK.out] at hv
      obtain rfl : ka = some ⟨gk, ok, none⟩ := by injection hv
      obtain ⟨a, ha⟩ : ∃ a, x.kids[j]? = some a := ⟨_, List.getElem?_eq_getElem (by rw [← HK.out]; exact hjK)⟩
      have hai := HKI.out a (List.mem_of_getElem? ha)
      obtain ⟨m, rfl⟩ : ∃ m : Nat, a = (m : Int) := ⟨a.toNat, by omega⟩
      have e1 := (hB.cell (p := ⟨gk, ok + j, none⟩) hgk).trans (hck j _ ha)
      have HC := Lib.hid (HIH.out m (by omega) wr (HTB.out wr hB))
      have hmx : max q (val deepC 0 T m) = accD T (x.kids.take (j + 1)) := by
        rw [List.take_add_one, ha]
        show _ = accD T (_ ++ [(m : Int)])
        rw [accD_snoc, hq]
        rfl
      have HMX := Lib.hid hmx
      have hmi := HACC.out (j + 1)
      rw [← hmx] at hmi
      obtain ⟨z, hz⟩ : ∃ z, z = val deepC 0 T m := ⟨_, rfl⟩
      rw [← hz] at HC HMX hmi
      clear hB hv hgk hck ha hmx hz hq
      go_wp2_with fail
      refine HC.out.mono ?_
      rintro e w2 ⟨rfl, hb2⟩
      have HB2 := Lib.hid (HB.out.trans (hb2.mono HB.out.size))
      clear hb2
      go_wp2
      go_roundw
      case rel => exact ⟨j + 1, max q z, by omega, by go_num, by go_num, HMX.out, HB2.out⟩
      case measure => simp [intOf]; omega
    · obtain rfl : j = K := by omega
      have hRq : R = q + 1 := by rw [HD.out, HQ.out, HK.out, List.take_length]
      subst hRq
      clear hB hq
      go_wp2
      go_ret
      exact ⟨by go_num, HB.out⟩
set_option maxHeartbeats 4000000 in
set_option maxRecDepth 100000 in
/-- first(t, at). -/
theorem first_c (v : Value) (T : List Nd) (hN : KidsOk T) : ∀ (i : Nat), i < T.length → ∀ w, NL w v T →
    Calls Tryd.prog 43 #[v, .int .i64 (i : Int)] w fun e W' => e = .returned (.int .i64 ((val firstC 0 T i : Nat) : Int)) ∧ Below w.heap.size w W' := by
  intro i
  induction i using Nat.strongRecOn with
  | _ i ih =>
  intro hi w hT
  have HIH : Hid (∀ j, j < i → ∀ w, NL w v T → Calls Tryd.prog 43 #[v, .int .i64 (j : Int)] w fun e W' => e = .returned (.int .i64 ((val firstC 0 T j : Nat) : Int)) ∧ Below w.heap.size w W') := Lib.hid (fun j hj w h => ih j hj (by omega) w h)
  clear ih
  obtain ⟨x, hx⟩ : ∃ x, T[i]? = some x := ⟨_, List.getElem?_eq_getElem hi⟩
  have hD := first_eq hN hx
  have HACC : Hid (∀ j, accF T i (x.kids.take j) ≤ i) := Lib.hid (fun j => accF_le T i _)
  have HKI : Hid (∀ a ∈ x.kids, 0 ≤ a ∧ a < (i : Int)) := Lib.hid (hN i x hx)
  have HTB : Hid (∀ W, Below w.heap.size w W → NL W v T) := Lib.hid (fun W hW => hT.below hW)
  obtain ⟨a0, c0, rfl, hc1, hc2⟩ := hT.form
  unfold maxLen at hc2
  obtain ⟨g, o, c1, hv, hg, hcs⟩ := hT.cells (by omega)
  obtain rfl : a0 = some ⟨g, o, none⟩ := by injection hv
  obtain ⟨x0, x1, kx, x2, xk⟩ := hcs i x hx
  obtain ⟨ka, kc, rfl, hl1, hl2⟩ := xk.form
  unfold maxLen at hl2
  obtain ⟨n, hn⟩ : ∃ n, n = T.length := ⟨_, rfl⟩
  obtain ⟨K, hK⟩ : ∃ n, n = x.kids.length := ⟨_, rfl⟩
  obtain ⟨R, hR⟩ : ∃ n, n = val firstC 0 T i := ⟨_, rfl⟩
  rw [← hR] at hD ⊢
  rw [← hn] at hc1 hi HIH HTB ⊢
  have HN := Lib.hid hn
  have HK := Lib.hid hK
  have HD := Lib.hid hD
  have HXK := Lib.hid xk
  have HCX : Hid (∀ W, Below w.heap.size w W → W.cell? ⟨g, o + i * 3 + 2, none⟩ = some (.slice ka K kc)) := Lib.hid (fun W hW => by
    rw [hK]
    exact (hW.cell (p := ⟨g, o + i * 3 + 2, none⟩) hg).trans x2)
  rw [← hK] at hl1
  have HB0 := Lib.hid (Below.refl w.heap.size w)
  clear hT hv hcs x0 x1 x2 xk hx hn hK hD hR hN
  go_enter Tryd.func43, Tryd.ntmps43
  go_wp2
  go_loopw [5, 6] (fun m k w' => ∃ j q : Nat, j ≤ K ∧ k = .int .i64 j ∧ m = .int .i64 q ∧ q = accF T i (x.kids.take j) ∧ Below w.heap.size w w') (fun _ k _ => K - (intOf k).toNat)
  case atStart => exact ⟨0, i, Nat.zero_le _, rfl, rfl, rfl, HB0.out⟩
  case round =>
    obtain ⟨j, q, hj, rfl, rfl, hq, hB⟩ := hrel
    have HB := Lib.hid hB
    have HQ := Lib.hid hq
    have hqi : q ≤ i := by rw [hq]; exact HACC.out j
    have e0 := HCX.out wr hB
    by_cases hjK : j < K
    · obtain ⟨gk, ok, ck, hv, hgk, hck⟩ := HXK.out.cells (by rw [← HK.out]; omega)
      rw [← HK.out] at hv
      obtain rfl : ka = some ⟨gk, ok, none⟩ := by injection hv
      obtain ⟨a, ha⟩ : ∃ a, x.kids[j]? = some a := ⟨_, List.getElem?_eq_getElem (by rw [← HK.out]; exact hjK)⟩
      have hai := HKI.out a (List.mem_of_getElem? ha)
      obtain ⟨m, rfl⟩ : ∃ m : Nat, a = (m : Int) := ⟨a.toNat, by omega⟩
      have e1 := (hB.cell (p := ⟨gk, ok + j, none⟩) hgk).trans (hck j _ ha)
      have HC := Lib.hid (HIH.out m (by omega) wr (HTB.out wr hB))
      have hmx : min q (val firstC 0 T m) = accF T i (x.kids.take (j + 1)) := by
        rw [List.take_add_one, ha]
        show _ = accF T i (_ ++ [(m : Int)])
        rw [accF_snoc, hq]
        rfl
      have HMX := Lib.hid hmx
      have hmi := HACC.out (j + 1)
      rw [← hmx] at hmi
      obtain ⟨z, hz⟩ : ∃ z, z = val firstC 0 T m := ⟨_, rfl⟩
      rw [← hz] at HC HMX hmi
      clear hB hv hgk hck ha hmx hz hq
      go_wp2_with fail
      refine HC.out.mono ?_
      rintro e w2 ⟨rfl, hb2⟩
      have HB2 := Lib.hid (HB.out.trans (hb2.mono HB.out.size))
      clear hb2
      go_wp2
      go_roundw
      case rel => exact ⟨j + 1, min q z, by omega, by go_num, by go_num, HMX.out, HB2.out⟩
      case measure => simp [intOf]; omega
    · obtain rfl : j = K := by omega
      have hRq : R = q := by rw [HD.out, HQ.out, HK.out, List.take_length]
      subst hRq
      clear hB hq
      go_wp2
      go_ret
      exact ⟨by go_num, HB.out⟩
set_option maxHeartbeats 4000000 in
set_option maxRecDepth 100000 in
/-- Deep(t). -/
theorem rdeep_c (v : Value) (T : List Nd) (w : World) (hT : NL w v T) (hk : (allKids T).length ≤ 1000000) :
    Calls Tryd.prog 16 #[v] w fun e W' => e = .returned (.int .i64 ((deepA T : Nat) : Int)) ∧ Below w.heap.size w W' := by
  have HR := Lib.hid (right_c v T w hT hk)
  have HTB : Hid (∀ W, Below w.heap.size w W → NL W v T) := Lib.hid (fun W hW => hT.below hW)
  have HTR : Hid (rightB T = true → RightT T) := Lib.hid (right_iff T).1
  obtain ⟨a0, c0, rfl, hc1, hc2⟩ := hT.form
  unfold maxLen at hc2
  obtain ⟨n, hn⟩ : ∃ n, n = T.length := ⟨_, rfl⟩
  unfold deepA
  obtain ⟨r, hr⟩ : ∃ n, n = rightB T := ⟨_, rfl⟩
  have HDC : Hid (∀ W, Below w.heap.size w W → r = true → Calls Tryd.prog 34 #[.slice a0 n c0, .int .i64 ((n : Int) - 1)] W fun e W' => e = .returned (.int .i64 ((val deepC 0 T (n - 1) : Nat) : Int)) ∧ Below W.heap.size W W') := Lib.hid (fun W hW h => by
    rw [hr] at h
    have h1 := HTR.out h
    have h2 := h1.pos
    have h3 := deep_c _ T h1.kidsOk (T.length - 1) (by omega) W (HTB.out W hW)
    rw [← hn] at h3 h2
    rw [show ((n - 1 : Nat) : Int) = (n : Int) - 1 by omega] at h3
    exact h3)
  have hpn : r = true → 1 ≤ n := fun h => by rw [hn]; rw [hr] at h; exact (HTR.out h).pos
  rw [← hn] at hc1 HR ⊢
  rw [← hr] at HR ⊢
  obtain ⟨z, hz⟩ : ∃ z, z = val deepC 0 T (n - 1) := ⟨_, rfl⟩
  rw [← hz] at HDC ⊢
  clear hT hn hr hz HTB HTR
  cases r with
  | false =>
    go_enter Tryd.func16, Tryd.ntmps16
    go_wp2_with fail
    refine HR.out.mono ?_
    rintro e w2 ⟨rfl, hb2⟩
    have HB2 := Lib.hid hb2
    clear hb2
    go_wp2
    go_ret
    exact ⟨rfl, HB2.out⟩
  | true =>
    have hp := hpn rfl
    clear hpn
    go_enter Tryd.func16, Tryd.ntmps16
    go_wp2_with fail
    refine HR.out.mono ?_
    rintro e w2 ⟨rfl, hb2⟩
    have HB2 := Lib.hid hb2
    have HD2 := Lib.hid (HDC.out w2 hb2 (by trivial))
    clear hb2
    go_wp2_with fail
    refine HD2.out.mono ?_
    rintro e w3 ⟨rfl, hb3⟩
    have HB3 := Lib.hid (HB2.out.trans (hb3.mono HB2.out.size))
    clear hb3
    go_wp2
    go_ret
    exact ⟨rfl, HB3.out⟩
end Go.Proofs.YtbegplfijjbpcaaDoor.No
