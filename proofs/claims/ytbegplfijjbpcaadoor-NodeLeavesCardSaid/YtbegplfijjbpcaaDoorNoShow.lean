/- The plain Show. -/
import Derived.Test.YtbegplfijjbpcaaDoorNoShowM
namespace Go.Proofs.YtbegplfijjbpcaaDoor.No
open Go Go.RowKit Go.Shelf
attribute [local go_sem] Oper.semAt_some

theorem form_kind {x : Nd} (h : formB x = true) : 1 ≤ x.kind ∧ x.kind ≤ 14 := by
  unfold formB at h
  repeat' split at h
  all_goals first
    | omega
    | cases h

theorem acc_full (T : List Nd) (x : Nd) (j : Nat) : (accS T x (x.kids.take j)).length ≤ (accS T x x.kids).length := by
  rw [accS_len, accS_len]
  have e : x.kids = x.kids.take j ++ x.kids.drop j := (List.take_append_drop j x.kids).symm
  have h : sumL (x.kids.map fun k => lenS T k.toNat + 1) = sumL ((x.kids.take j).map fun k => lenS T k.toNat + 1) + sumL ((x.kids.drop j).map fun k => lenS T k.toNat + 1) := by
    rw [← sumL_app, ← List.map_append, ← e]
  omega
theorem acc_le {T : List Nd} (h : KidsOk T) {i : Nat} {x : Nd} (hx : T[i]? = some x) (j : Nat) : (accS T x (x.kids.take j)).length ≤ lenS T i := by
  have h1 := acc_full T x j
  unfold lenS
  rw [show_eq h hx]
  split
  · rename_i hk
    rw [hk] at h1 ⊢
    simp [accS]
  · rw [List.length_append, List.length_append]
    omega

set_option maxHeartbeats 8000000 in
set_option maxRecDepth 100000 in
/-- show(t, at). -/
theorem show_c (v : Value) (T : List Nd) (hR : RightT T) (ht : ∀ x ∈ T, x.text.length ≤ 10000000) : ∀ (i : Nat), i < T.length → ∀ w, NL w v T →
    Calls Tryd.prog 32 #[v, .int .i64 (i : Int)] w fun e W' => e = .returned (.string (bs (val showC [] T i))) ∧ Below w.heap.size w W' := by
  intro i
  induction i using Nat.strongRecOn with
  | _ i ih =>
  intro hi w hT
  have HIH : Hid (∀ j, j < i → ∀ w, NL w v T → Calls Tryd.prog 32 #[v, .int .i64 (j : Int)] w fun e W' => e = .returned (.string (bs (val showC [] T j))) ∧ Below w.heap.size w W') := Lib.hid (fun j hj w h => ih j hj (by omega) w h)
  clear ih
  have hN := hR.kidsOk
  obtain ⟨x, hx⟩ : ∃ x, T[i]? = some x := ⟨_, List.getElem?_eq_getElem hi⟩
  have hD := show_eq hN hx
  have hkd := form_kind (hR.node i x hx).1
  have htx := ht x (List.mem_of_getElem? hx)
  have HKI : Hid (∀ a ∈ x.kids, 0 ≤ a ∧ a < (i : Int)) := Lib.hid (hN i x hx)
  have HLEN : Hid (∀ j, j < T.length → lenS T j ≤ 100000000000) := Lib.hid (fun j hj => show_len hR ht hj)
  have HACC : Hid (∀ j, (accS T x (x.kids.take j)).length ≤ 100000000000) := Lib.hid (fun j => Nat.le_trans (acc_le hN hx j) (show_len hR ht hi))
  have HTB : Hid (∀ W, Below w.heap.size w W → NL W v T) := Lib.hid (fun W hW => hT.below hW)
  obtain ⟨a0, c0, rfl, hc1, hc2⟩ := hT.form
  unfold maxLen at hc2
  obtain ⟨g, o, c1, hv, hg, hcs⟩ := hT.cells (by omega)
  obtain rfl : a0 = some ⟨g, o, none⟩ := by injection hv
  obtain ⟨x0, x1, kx, x2, xk⟩ := hcs i x hx
  obtain ⟨kd, hkd2⟩ : ∃ n, n = x.kind := ⟨_, rfl⟩
  obtain ⟨tx, htx2⟩ : ∃ n, n = bs x.text := ⟨_, rfl⟩
  obtain ⟨dg, hdg⟩ : ∃ n, n = bs (digB x.kind) := ⟨_, rfl⟩
  obtain ⟨wd, hwd⟩ : ∃ n, n = bs (wordB x.text) := ⟨_, rfl⟩
  have HDG : Hid (∀ W, Calls Tryd.prog 51 #[.int .i64 kd] W fun e W' => e = .returned (.string dg) ∧ Below W.heap.size W W') := Lib.hid (fun W => by rw [hkd2, hdg]; exact digits_c _ W (by omega) hkd.2)
  have HWD : Hid (∀ W, Calls Tryd.prog 52 #[.string tx] W fun e W' => e = .returned (.string wd) ∧ Below W.heap.size W W') := Lib.hid (fun W => by rw [htx2, hwd]; exact word_c _ htx W)
  have HHS : Hid (dg ++ ⟨#[58]⟩ ++ wd = bs (accS T x (x.kids.take 0))) := Lib.hid (by
    rw [hdg, hwd]
    show bs (digB x.kind) ++ bs [58] ++ bs (wordB x.text) = _
    rw [bs_app, bs_app]
    unfold accS headB
    simp)
  have hdgs : dg.size ≤ 2 := by rw [hdg, bs_size]; exact dig_len _
  have hwds : wd.size ≤ 30000000 := by rw [hwd, bs_size]; have := word_len x.text; omega
  obtain ⟨ka, kc, rfl, hl1, hl2⟩ := xk.form
  unfold maxLen at hl2
  obtain ⟨n, hn⟩ : ∃ n, n = T.length := ⟨_, rfl⟩
  obtain ⟨K, hK⟩ : ∃ n, n = x.kids.length := ⟨_, rfl⟩
  obtain ⟨R, hRR⟩ : ∃ n, n = val showC [] T i := ⟨_, rfl⟩
  rw [← hRR] at hD ⊢
  rw [← hn] at hc1 hi HIH HTB HLEN ⊢
  have HN := Lib.hid hn
  have HK := Lib.hid hK
  have HD := Lib.hid hD
  have HXK := Lib.hid xk
  rw [← hK] at x2 hl1
  rw [← hkd2] at x0
  rw [← htx2] at x1
  have HRW : Hid (Row ((w.alloc (.cells #[.int .i64 kd, .string tx, .slice ka K kc] 42)).drew) w.heap.size 42 #[.int .i64 kd, .string tx, .slice ka K kc]) := Lib.hid ((Row.new w 42 #[.int .i64 kd, .string tx, .slice ka K kc]).drew)
  have HB1 : Hid (Below w.heap.size w ((w.alloc (.cells #[.int .i64 kd, .string tx, .slice ka K kc] 42)).drew)) := Lib.hid ((Below.refl _ w).alloc (Nat.le_refl _) _).drew
  have HGS := Lib.hid hg
  obtain ⟨z0, z1, z2, -⟩ := node_cells HRW.out
  clear hT hv hcs xk hx hn hK hD hRR hkd2 htx2 hdg hwd hkd htx hR ht hN hg
  go_enter Tryd.func32, Tryd.ntmps32
  go_wp2_with fail
  clear x0 x1 x2
  go_region_held_law (fun w' => w'.cell? ⟨w.heap.size, 0, none⟩ = some (.int .i64 kd) ∧ w'.cell? ⟨w.heap.size, 1, none⟩ = some (.string tx)) (first | exact HX8.out | exact HX7.out | exact ⟨z0, z1⟩ | go_keep)
    ((first
      | (go_at_call 51; refine (HDG.out _).mono ?_; rintro e w7 ⟨rfl, hb7⟩; have HR7 := Lib.hid (HRW.out.below hb7 HRW.out.lt); have HB7 := Lib.hid (HB1.out.trans (hb7.mono HB1.out.size)); have HX7 := Lib.hid (And.intro (node_cells HR7.out).1 (node_cells HR7.out).2.1); clear hb7)
      | (go_at_call 52; refine (HWD.out _).mono ?_; rintro e w8 ⟨rfl, hb8⟩; have HR8 := Lib.hid (HR7.out.below hb8 HR7.out.lt); have HB8 := Lib.hid (HB7.out.trans (hb8.mono HB7.out.size)); have HX8 := Lib.hid (And.intro (node_cells HR8.out).1 (node_cells HR8.out).2.1); clear hb8)))
  all_goals
    rw [HHS.out]
    obtain ⟨S0, hS0⟩ : ∃ S, S = bs (accS T x (x.kids.take 0)) := ⟨_, rfl⟩
    rw [← hS0]
    have HS0 := Lib.hid hS0
    clear hdgs hwds z0 z1 z2 hS0
    obtain ⟨-, -, z2, -⟩ := node_cells HR8.out
    by_cases hK0 : K = 0
    · have HR0 : Hid (S0 = bs R) := Lib.hid (by
        rw [HS0.out]
        have h0 : x.kids = [] := List.eq_nil_of_length_eq_zero (by rw [← HK.out]; exact hK0)
        rw [HD.out, if_pos h0]
        simp [accS])
      have t0 : ((K : Int) == 0) = true := by rw [hK0]; rfl
      clear hK0
      go_wp2
      go_ret
      exact ⟨by rw [← HR0.out]; rfl, HB8.out⟩
    · have HR0 : Hid (⟨#[40]⟩ ++ bs (accS T x (x.kids.take K)) ++ ⟨#[41]⟩ = bs R) := Lib.hid (by
        have h0 : x.kids ≠ [] := fun e => hK0 (by rw [HK.out, e]; rfl)
        rw [HD.out, if_neg h0, HK.out, List.take_length]
        show bs [40] ++ bs _ ++ bs [41] = _
        rw [bs_app, bs_app])
      have t0 : ((K : Int) == 0) = false := neq_of (by omega)
      clear hK0
      go_wp2
      go_loopw [6, 7] (fun s k w' => ∃ j : Nat, j ≤ K ∧ k = .int .i64 j ∧ s = .string (bs (accS T x (x.kids.take j))) ∧ Row w' w.heap.size 42 #[.int .i64 kd, .string tx, .slice ka K kc] ∧ Below w.heap.size w w') (fun _ k _ => K - (intOf k).toNat)
      case atStart => exact ⟨0, Nat.zero_le _, rfl, by rw [HS0.out], HR8.out, HB8.out⟩
      case round =>
        obtain ⟨j, hj, rfl, rfl, hr, hB⟩ := hrel
        have HR := Lib.hid hr
        have HB := Lib.hid hB
        obtain ⟨-, -, y2, -⟩ := node_cells hr
        have hsz : (bs (accS T x (x.kids.take j))).size ≤ 100000000000 := by rw [bs_size]; exact HACC.out j
        by_cases hjK : j < K
        · obtain ⟨gk, ok, ck, hv, hgk, hck⟩ := HXK.out.cells (by rw [← HK.out]; omega)
          rw [← HK.out] at hv
          obtain rfl : ka = some ⟨gk, ok, none⟩ := by injection hv
          obtain ⟨a, ha⟩ : ∃ a, x.kids[j]? = some a := ⟨_, List.getElem?_eq_getElem (by rw [← HK.out]; exact hjK)⟩
          have hai := HKI.out a (List.mem_of_getElem? ha)
          obtain ⟨m, rfl⟩ : ∃ m : Nat, a = (m : Int) := ⟨a.toNat, by omega⟩
          have e1 := (hB.cell (p := ⟨gk, ok + j, none⟩) hgk).trans (hck j _ ha)
          have HC := Lib.hid (HIH.out m (by omega) wr (HTB.out wr hB))
          have hzs : (bs (val showC [] T m)).size ≤ 100000000000 := by rw [bs_size]; exact HLEN.out m (by omega)
          have hnx : bs (accS T x (x.kids.take j)) ++ ⟨#[32]⟩ ++ bs (val showC [] T m) = bs (accS T x (x.kids.take (j + 1))) := by
            rw [List.take_add_one, ha]
            show bs _ ++ bs [32] ++ bs _ = bs (accS T x (_ ++ [(m : Int)]))
            rw [accS_snoc, bs_app, bs_app]
            rfl
          have HNX := Lib.hid hnx
          obtain ⟨S, hS⟩ : ∃ S, S = bs (accS T x (x.kids.take j)) := ⟨_, rfl⟩
          obtain ⟨Z, hZ⟩ : ∃ Z, Z = bs (val showC [] T m) := ⟨_, rfl⟩
          rw [← hS] at hsz HNX ⊢
          rw [← hZ] at hzs HNX HC
          clear hB hr hv hgk hck ha hnx hS hZ
          go_wp2_with fail
          refine HC.out.mono ?_
          rintro e w2 ⟨rfl, hb2⟩
          have HR2 := Lib.hid (HR.out.below hb2 HR.out.lt)
          have HB2 := Lib.hid (HB.out.trans (hb2.mono HB.out.size))
          clear hb2
          go_wp2
          go_roundw
          case rel => exact ⟨j + 1, by omega, by go_num, by rw [← HNX.out], HR2.out, HB2.out⟩
          case measure => simp [intOf]; omega
        · obtain rfl : j = K := by omega
          obtain ⟨S, hS⟩ : ∃ S, S = bs (accS T x (x.kids.take j)) := ⟨_, rfl⟩
          rw [← hS] at hsz HR0 ⊢
          clear hB hr hS
          go_wp2
          go_ret
          exact ⟨by rw [← HR0.out]; rfl, HB.out⟩
set_option maxHeartbeats 4000000 in
set_option maxRecDepth 100000 in
/-- Show(t). -/
theorem rshow_c (v : Value) (T : List Nd) (w : World) (hT : NL w v T) (hk : (allKids T).length ≤ 1000000) (ht : ∀ x ∈ T, x.text.length ≤ 10000000) :
    Calls Tryd.prog 14 #[v] w fun e W' => e = .returned (.string (bs (showA T))) ∧ Below w.heap.size w W' := by
  have HR := Lib.hid (right_c v T w hT hk)
  have HTB : Hid (∀ W, Below w.heap.size w W → NL W v T) := Lib.hid (fun W hW => hT.below hW)
  have HTR : Hid (rightB T = true → RightT T) := Lib.hid (right_iff T).1
  obtain ⟨a0, c0, rfl, hc1, hc2⟩ := hT.form
  unfold maxLen at hc2
  obtain ⟨n, hn⟩ : ∃ n, n = T.length := ⟨_, rfl⟩
  unfold showA
  obtain ⟨r, hr⟩ : ∃ n, n = rightB T := ⟨_, rfl⟩
  have HDC : Hid (∀ W, Below w.heap.size w W → r = true → Calls Tryd.prog 32 #[.slice a0 n c0, .int .i64 ((n : Int) - 1)] W fun e W' => e = .returned (.string (bs (val showC [] T (n - 1)))) ∧ Below W.heap.size W W') := Lib.hid (fun W hW h => by
    rw [hr] at h
    have h1 := HTR.out h
    have h2 := h1.pos
    have h3 := show_c _ T h1 ht (T.length - 1) (by omega) W (HTB.out W hW)
    rw [← hn] at h3 h2
    rw [show ((n - 1 : Nat) : Int) = (n : Int) - 1 by omega] at h3
    exact h3)
  have hpn : r = true → 1 ≤ n := fun h => by rw [hn]; rw [hr] at h; exact (HTR.out h).pos
  rw [← hn] at hc1 HR ⊢
  rw [← hr] at HR ⊢
  obtain ⟨z, hz⟩ : ∃ z, z = val showC [] T (n - 1) := ⟨_, rfl⟩
  rw [← hz] at HDC ⊢
  clear hT hn hr hz HTB HTR
  cases r with
  | false =>
    go_enter Tryd.func14, Tryd.ntmps14
    go_wp2_with fail
    refine HR.out.mono ?_
    rintro e w2 ⟨rfl, hb2⟩
    have HB2 := Lib.hid hb2
    clear hb2
    go_wp2
    go_ret
    exact ⟨rfl, HB2.out⟩
  | true =>
    have hp := hpn rfl
    clear hpn
    go_enter Tryd.func14, Tryd.ntmps14
    go_wp2_with fail
    refine HR.out.mono ?_
    rintro e w2 ⟨rfl, hb2⟩
    have HB2 := Lib.hid hb2
    have HD2 := Lib.hid (HDC.out w2 hb2 (by trivial))
    clear hb2
    go_wp2_with fail
    refine HD2.out.mono ?_
    rintro e w3 ⟨rfl, hb3⟩
    have HB3 := Lib.hid (HB2.out.trans (hb3.mono HB2.out.size))
    clear hb3
    go_wp2
    go_ret
    exact ⟨rfl, HB3.out⟩
end Go.Proofs.YtbegplfijjbpcaaDoor.No
