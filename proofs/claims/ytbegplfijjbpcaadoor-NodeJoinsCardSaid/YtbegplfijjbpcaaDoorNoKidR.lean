/- The plain Leaf and Kid. -/
import Derived.Test.YtbegplfijjbpcaaDoorNoJoinR
namespace Go.Proofs.YtbegplfijjbpcaaDoor.No
open Go Go.RowKit Go.Shelf
attribute [local go_sem] Oper.semAt_some

set_option maxRecDepth 100000 in
set_option maxHeartbeats 2000000 in
/-- Leaf(kind, text). -/
theorem rleaf_c (w : World) (kd : Int) (X : List UInt8) (hX : X.length ≤ 50) :
    Calls Tryd.prog 22 #[.int .i64 kd, .string (bs X)] w fun e W' => Below w.heap.size w W' ∧ TOLD W' e (joinA kd X []) := by
  have HJ := Lib.hid (rjoin_c w kd X _ [] (LL.nil w) hX (Nat.zero_le _) (fun K hK => by cases hK))
  obtain ⟨U, hU⟩ : ∃ U, U = bs X := ⟨_, rfl⟩
  obtain ⟨A, hA⟩ : ∃ A, A = joinA kd X [] := ⟨_, rfl⟩
  rw [← hU] at HJ ⊢
  rw [← hA] at HJ ⊢
  clear hU hA hX
  go_enter Tryd.func22, Tryd.ntmps22
  go_wp2_with fail
  refine HJ.out.mono ?_
  rintro e w1 ⟨hb1, a, c, rfl, hN⟩
  have HB1 := Lib.hid hb1
  have HN := Lib.hid hN
  obtain ⟨n, hn⟩ : ∃ n, n = A.1.length := ⟨_, rfl⟩
  obtain ⟨ev, hev⟩ : ∃ n : Int, n = ((A.2 : Nat) : Int) := ⟨_, rfl⟩
  rw [← hn] at HN ⊢
  rw [← hev]
  have HT : Hid (TOLD w1 (.returned (.tuple #[.slice a n c, .int .i64 ev])) A) := Lib.hid ⟨a, c, by rw [hn, hev], by rw [← hn]; exact HN.out⟩
  clear hb1 hN hn hev
  go_wp2
  refine bodyPost_ret (v := .tuple #[.slice a n c, .int .i64 ev]) (by simp [results, Tryd.f22, go_sem]) rfl ⟨HB1.out, HT.out⟩

theorem NL.sub {W : World} {g o n c : Nat} {T : List Nd} (h : NL W (.slice (some ⟨g, o, none⟩) n c) T) (lo hi : Nat) (h1 : lo ≤ hi) (h2 : hi ≤ n) (c' : Nat) (hc : hi - lo ≤ c') (hc2 : c' ≤ c) : NL W (.slice (some ⟨g, o + lo * 3, none⟩) (hi - lo) c') ((T.take hi).drop lo) := by
  obtain ⟨a0, c0, e, h3, h4⟩ := h.form
  injection e with e1 e2 e3
  subst e3
  have hl : ((T.take hi).drop lo).length = hi - lo := by rw [List.length_drop, List.length_take]; omega
  refine ⟨⟨_, c', by rw [hl], by rw [hl]; exact hc, by omega⟩, fun h0 => ?_⟩
  rw [hl] at h0
  obtain ⟨g1, o1, c1, e, hg, hcs⟩ := h.cells (by omega)
  injection e with e _ _
  injection e with e
  injection e with e5 e6 _
  subst e5
  subst e6
  refine ⟨g, o + lo * 3, c', by rw [hl], hg, fun j x hj => ?_⟩
  have hjl : j < hi - lo := by have := (List.getElem?_eq_some_iff.1 hj).1; omega
  rw [List.getElem?_drop, List.getElem?_take, if_pos (by omega)] at hj
  have := hcs (lo + j) x hj
  rw [show o + lo * 3 + j * 3 = o + (lo + j) * 3 by omega]
  exact this
theorem kid_no {T : List Nd} {n : Int} (h : ¬ (rightB T = true ∧ 0 ≤ n ∧ n < ((rootK T).length : Int))) : kidA T n = ([], 70) := by
  unfold kidA
  rw [if_neg]
  intro e
  simp only [Bool.and_eq_true, decide_eq_true_eq] at e
  exact h ⟨e.1.1.1, e.1.1.2, e.1.2⟩

set_option maxRecDepth 100000 in
set_option maxHeartbeats 2000000 in
/-- Kid(t, n). -/
theorem rkid_c (w : World) (v : Value) (T : List Nd) (n : Int) (hT : NL w v T) (hl : T.length ≤ 60) (hs : ∀ x ∈ T, x.kids.length ≤ 60 ∧ x.text.length ≤ 50) :
    Calls Tryd.prog 26 #[v, .int .i64 n] w fun e W' => Below w.heap.size w W' ∧ TOLD W' e (kidA T n) := by
  have HRT := Lib.hid (right_c v T w hT (kids_few hl hs))
  obtain ⟨a0, c0, rfl, hc1, hc2⟩ := hT.form
  unfold maxLen at hc2
  have HT := Lib.hid hT
  have HS := Lib.hid hs
  obtain ⟨m, hm⟩ : ∃ m, m = T.length := ⟨_, rfl⟩
  rw [← hm] at hc1 hl HT HRT ⊢
  have HM := Lib.hid hm
  clear hT hs hm
  by_cases hR : rightB T = true
  · rw [hR] at HRT
    have hRT := (right_iff T).1 hR
    have HR := Lib.hid hRT
    have hm1 : 1 ≤ m := by rw [HM.out]; exact hRT.pos
    obtain ⟨g, o, c1, hv, hg, hcs⟩ := HT.out.cells (by rw [← HM.out]; omega)
    rw [← HM.out] at hv
    obtain rfl : a0 = some ⟨g, o, none⟩ := by injection hv
    obtain ⟨x, hx⟩ : ∃ x, T[m - 1]? = some x := ⟨_, List.getElem?_eq_getElem (by rw [← HM.out]; omega)⟩
    obtain ⟨_, _, kx, y2, xk⟩ := hcs (m - 1) x hx
    obtain ⟨ka, kc, rfl, hk1, hk2⟩ := xk.form
    unfold maxLen at hk2
    have hroot : rootK T = x.kids := by
      unfold rootK
      rw [← HM.out, hx]
    obtain ⟨K, hK⟩ : ∃ K, K = x.kids.length := ⟨_, rfl⟩
    rw [← hK] at y2 hk1 xk
    have HX := Lib.hid hx
    have HK := Lib.hid hK
    have HXK := Lib.hid xk
    have HROOT := Lib.hid hroot
    have HC : Hid (∀ W, Below w.heap.size w W → W.cell? ⟨g, o + (m - 1) * 3 + 2, none⟩ = some (.slice ka K kc)) := Lib.hid (fun W hW => (hW.cell (p := ⟨g, o + (m - 1) * 3 + 2, none⟩) hg).trans y2)
    have HG := Lib.hid hg
    have hms : (m : Int) - 1 = ((m - 1 : Nat) : Int) := by omega
    have HMS := Lib.hid hms
    clear hv hcs hx y2 xk hroot hK hg hRT
    have hw1 : IntKind.i64.wrap ((m : Int) - 1) = ((m - 1 : Nat) : Int) := by rw [IntKind.wrap_i64]; omega
    obtain ⟨m1, hm1e⟩ : ∃ m1, m1 = m - 1 := ⟨_, rfl⟩
    rw [← hm1e] at hw1 HC HMS HX
    have hm1l : m1 < m := by omega
    have HM1 := Lib.hid hm1e
    clear hm1e hms
    by_cases hn : n < 0
    · have HNO : Hid (kidA T n = ([], 70)) := Lib.hid (kid_no (fun h => by omega))
      go_enter Tryd.func26, Tryd.ntmps26
      go_wp2_with fail
      refine HRT.out.mono ?_
      rintro e w1 ⟨rfl, hb1⟩
      have HB1 := Lib.hid hb1
      clear hb1
      go_wp2
      refine bodyPost_ret (v := .tuple #[.slice none 0 0, .int .i64 70]) (by simp [results, Tryd.f26, go_sem]) rfl ⟨HB1.out, TOLD.no HNO.out⟩
    · obtain ⟨j, rfl⟩ : ∃ j : Nat, n = (j : Int) := ⟨n.toNat, by omega⟩
      clear hn
      by_cases hjK : j < K
      · go_enter Tryd.func26, Tryd.ntmps26
        go_wp2_with fail
        refine HRT.out.mono ?_
        rintro e w1 ⟨rfl, hb1⟩
        have HB1 := Lib.hid hb1
        have e1 := HC.out _ hb1
        clear hb1
        obtain ⟨gk, ok, ck, hv, hgk, hck⟩ := HXK.out.cells (by rw [← HK.out]; omega)
        rw [← HK.out] at hv
        obtain rfl : ka = some ⟨gk, ok, none⟩ := by injection hv
        obtain ⟨a, ha⟩ : ∃ a, x.kids[j]? = some a := ⟨_, List.getElem?_eq_getElem (by rw [← HK.out]; exact hjK)⟩
        have hka := HR.out.kid HX.out a (List.mem_of_getElem? ha)
        obtain ⟨at_, rfl⟩ : ∃ q : Nat, a = (q : Int) := ⟨a.toNat, by omega⟩
        have hat : at_ < m1 := by omega
        have e2 := (HB1.out.cell (p := ⟨gk, ok + j, none⟩) hgk).trans (hck j _ ha)
        obtain ⟨fr, hfr⟩ : ∃ f, f = val firstC 0 T at_ := ⟨_, rfl⟩
        have hfl : fr ≤ at_ := by rw [hfr]; exact first_le HR.out.kidsOk (by rw [← HM.out]; omega)
        have HFC : Hid (Calls Tryd.prog 43 #[.slice (some ⟨g, o, none⟩) m c0, .int .i64 (at_ : Int)] w1 fun e W' => e = .returned (.int .i64 (fr : Int)) ∧ Below w1.heap.size w1 W') := Lib.hid (by
          rw [hfr]
          exact first_c _ T HR.out.kidsOk at_ (by rw [← HM.out]; omega) w1 (HT.out.below HB1.out))
        have HAT : Hid (((rootK T)[((j : Int)).toNat]?).getD 0 = (at_ : Int)) := Lib.hid (by rw [HROOT.out, Int.toNat_natCast, ha]; rfl)
        have HFR := Lib.hid hfr
        clear hv hgk hck ha hka hfr
        go_wp2_with fail
        refine HFC.out.mono ?_
        rintro e w2 ⟨rfl, hb2⟩
        have HB2 := Lib.hid (HB1.out.trans (hb2.mono HB1.out.size))
        clear hb2 e1 e2
        have hfa : (fr : Int) ≤ (at_ : Int) + 1 := by omega
        have ham : (at_ : Int) + 1 ≤ (m : Int) := by omega
        have hac : (at_ : Int) + 1 ≤ (c0 : Int) := by omega
        go_wp2_with fail
        have hmemS : ∀ x ∈ (T.take (at_ + 1)).drop fr, x ∈ T := fun x hx => List.mem_of_mem_take (List.mem_of_mem_drop hx)
        have hlS : ((T.take (at_ + 1)).drop fr).length = at_ + 1 - fr := by rw [List.length_drop, List.length_take, ← HM.out]; omega
        refine (moved_c w2 _ ((T.take (at_ + 1)).drop fr) (-(fr : Int)) ((HT.out.below HB2.out).sub fr (at_ + 1) (by omega) (by omega) (c0 - fr) (by omega) (by omega)) (by rw [hlS]; omega) (fun x hx => ⟨by have := (HS.out x (hmemS x hx)).1; omega, fun a ha => by
          obtain ⟨i, hi⟩ := List.mem_iff_getElem?.1 (hmemS x hx)
          have h1 := HR.out.kid hi a ha
          have h2 := (List.getElem?_eq_some_iff.1 hi).1
          have h3 := HM.out
          omega⟩) (by omega)).mono ?_
        rintro e w3 ⟨hb3, u, L, rfl, hN, hL⟩
        have hKL : L.map (·.1) = kidL T at_ := by rw [hL, HFR.out]; rfl
        have hNL := hN.nl
        rw [hKL] at hNL
        obtain ⟨ua, uc, rfl⟩ := own_form hN.row
        have hLl : L.length = (kidL T at_).length := by rw [← hKL, List.length_map]
        have hKl : (kidL T at_).length = at_ + 1 - fr := by rw [← hKL, hL, List.length_map, hlS]
        have hks : ∀ x ∈ kidL T at_, x.kids.length ≤ 60 ∧ x.text.length ≤ 50 := by
          rw [← hKL, hL]
          exact moved_small (fun x hx => HS.out x (hmemS x hx))
        obtain ⟨z, hz⟩ : ∃ z, z = L.length := ⟨_, rfl⟩
        rw [← hz] at hNL ⊢
        have HZ : Hid (z = (kidL T at_).length) := Lib.hid (by rw [hz, hLl])
        have HNL := Lib.hid hNL
        have HB3 := Lib.hid (HB2.out.trans (hb3.mono HB2.out.size))
        have HRK : Hid (Calls Tryd.prog 12 #[.slice ua z uc] w3 fun e W' => e = .returned (.bool (rightB (kidL T at_))) ∧ Below w3.heap.size w3 W') := Lib.hid (right_c _ _ w3 hNL (kids_few (by rw [hKl]; omega) hks))
        have HNN : Hid ((0 : Int) ≤ (j : Int) ∧ (j : Int) < ((rootK T).length : Int)) := Lib.hid ⟨by omega, by rw [HROOT.out, ← HK.out]; omega⟩
        have HTR : Hid (rightB T = true) := Lib.hid ((right_iff T).2 HR.out)
        have HKA : Hid (kidA T (j : Int) = if rightB (kidL T at_) then (kidL T at_, 0) else ([], 70)) := Lib.hid (by
          unfold kidA
          rw [HAT.out, HTR.out, decide_eq_true HNN.out.1, decide_eq_true HNN.out.2, Int.toNat_natCast]
          simp)
        clear hmemS hlS hb3 hN hL hKL hNL hLl hKl hks hz
        by_cases hRk : rightB (kidL T at_) = true
        · rw [hRk] at HRK HKA
          clear hRk
          go_wp2_with fail
          refine HRK.out.mono ?_
          rintro e w4 ⟨rfl, hb4⟩
          have HB4 := Lib.hid (HB3.out.trans (hb4.mono HB3.out.size))
          have HTT : Hid (TOLD w4 (.returned (.tuple #[.slice ua z uc, .int .i64 0])) (kidA T (j : Int))) := Lib.hid (by
            rw [HKA.out, if_pos trivial]
            refine ⟨ua, uc, ?_, ?_⟩
            · show _ = Ending.returned (.tuple #[.slice _ (kidL T at_).length _, .int .i64 0])
              rw [← HZ.out]
            · show NL w4 (.slice _ (kidL T at_).length _) (kidL T at_)
              rw [← HZ.out]
              exact HNL.out.below hb4)
          clear hb4
          go_wp2
          refine bodyPost_ret (v := .tuple #[.slice ua z uc, .int .i64 0]) (by simp [results, Tryd.f26, go_sem]) rfl ⟨HB4.out, HTT.out⟩
        · have hRf : rightB (kidL T at_) = false := by simpa using hRk
          rw [hRf] at HRK HKA
          clear hRk hRf
          go_wp2_with fail
          refine HRK.out.mono ?_
          rintro e w4 ⟨rfl, hb4⟩
          have HB4 := Lib.hid (HB3.out.trans (hb4.mono HB3.out.size))
          clear hb4
          go_wp2
          refine bodyPost_ret (v := .tuple #[.slice none 0 0, .int .i64 70]) (by simp [results, Tryd.f26, go_sem]) rfl ⟨HB4.out, TOLD.no HKA.out⟩
      · have HNO : Hid (kidA T (j : Int) = ([], 70)) := Lib.hid (kid_no (fun h => by have := h.2.2; rw [HROOT.out, ← HK.out] at this; omega))
        go_enter Tryd.func26, Tryd.ntmps26
        go_wp2_with fail
        refine HRT.out.mono ?_
        rintro e w1 ⟨rfl, hb1⟩
        have HB1 := Lib.hid hb1
        have e1 := HC.out _ hb1
        clear hb1
        go_wp2
        refine bodyPost_ret (v := .tuple #[.slice none 0 0, .int .i64 70]) (by simp [results, Tryd.f26, go_sem]) rfl ⟨HB1.out, TOLD.no HNO.out⟩
  · have HNO : Hid (kidA T n = ([], 70)) := Lib.hid (kid_no (fun h => hR h.1))
    have hRf : rightB T = false := by simpa using hR
    rw [hRf] at HRT
    clear hR hRf
    go_enter Tryd.func26, Tryd.ntmps26
    go_wp2_with fail
    refine HRT.out.mono ?_
    rintro e w1 ⟨rfl, hb1⟩
    have HB1 := Lib.hid hb1
    clear hb1
    go_wp2
    refine bodyPost_ret (v := .tuple #[.slice none 0 0, .int .i64 70]) (by simp [results, Tryd.f26, go_sem]) rfl ⟨HB1.out, TOLD.no HNO.out⟩
end Go.Proofs.YtbegplfijjbpcaaDoor.No
