/- The plain Match: brackets' partners. -/
import Derived.Test.YthbiflmmlcmncaaDoorGyA
import Derived.Outline
import Derived.Deep.RegionHeldLaw
namespace Go.Proofs.YthbiflmmlcmncaaDoor.Ti
open Go Go.RowKit Go.Shelf
attribute [local go_sem] Oper.semAt_some

set_option maxRecDepth 100000 in
set_option maxHeartbeats 8000000 in
theorem rmatch_c (w : World) (v : Value) (L : List Tk) (h : TL w v L) (hl : L.length ≤ 1000) :
    Calls Tryd.prog 13 #[v] w fun e W' => ∃ v', e = .returned (.tuple #[v', .int .i64 (((matchA L).2 : Nat) : Int)]) ∧ IOwn W' w.heap.size v' (matchA L).1 ∧ Below w.heap.size w W' := by
  obtain ⟨i0, hi, hz0, hz1, hz2⟩ := infoI
  obtain ⟨a0, c0, rfl, hc1, hc2⟩ := h.form
  unfold maxLen at hc2
  have HCL := Lib.hid h.cells
  obtain ⟨n, hn⟩ : ∃ n, n = L.length := ⟨_, rfl⟩
  rw [← hn] at hc1 HCL hl ⊢
  have HN := Lib.hid hn
  obtain ⟨M, hM⟩ : ∃ M, M = matchA L := ⟨_, rfl⟩
  rw [← hM]
  have HM := Lib.hid hM
  clear h hn hM
  go_enter Tryd.func13, Tryd.ntmps13
  go_wp2
  go_loopw [4, 5, 6, 7] (fun o st d i wr => ∃ (k : Nat) (s : St), k ≤ n ∧ i = .int .i64 k ∧ stAt L k = some s ∧ d = .int .i64 ((dmax L k : Nat) : Int) ∧ Two wr w.heap.size o st (parts k s.2) (stk s.1) ∧ Below w.heap.size w wr)
    (fun _ _ _ i _ => n - (intOf i).toNat)
  case atStart => exact ⟨0, ([], []), Nat.zero_le _, rfl, rfl, rfl, ⟨IOwn.nil _ _, IOwn.nil _ _, fun k e => by cases e⟩, Below.refl _ _⟩
  case round =>
    obtain ⟨k, s, hk, rfl, hs, rfl, htw, hB⟩ := hrel
    have HTW := Lib.hid htw
    have HB := Lib.hid hB
    have HS := Lib.hid hs
    have hbs := hB.size
    have hkL : k ≤ L.length := by rw [← HN.out]; exact hk
    have hinv := inv_at L k s hkL hs
    have hsl := st_len k s hkL hs
    have hdl : dmax L k ≤ k := dmax_le k (fun j u hj hu => st_len j u (by omega) hu)
    obtain ⟨dp, hdp⟩ : ∃ dp, dp = dmax L k := ⟨_, rfl⟩
    rw [← hdp] at hdl ⊢
    have HDP := Lib.hid hdp
    clear htw hB hs hdp
    by_cases hlt : k < n
    · obtain ⟨g, o, c1, hv, hg, hcs⟩ := HCL.out (by omega)
      obtain rfl : a0 = some ⟨g, o, none⟩ := by injection hv
      obtain ⟨t, ht⟩ : ∃ t, L[k]? = some t := ⟨_, List.getElem?_eq_getElem (by rw [← HN.out]; exact hlt)⟩
      obtain ⟨x0, x1, x2⟩ := hcs k t ht
      have hnext := stAt_succ ht
      rw [HS.out] at hnext
      change stAt L (k + 1) = step1 t k s at hnext
      have hpo : part s.2 k = -1 := part_out (fun a b hm => by have := hinv.pair a b hm; omega)
      have hps := parts_snoc hpo
      have hfo := opens_c t
      have hfc := closes_c t
      unfold tv at hfo hfc
      obtain ⟨kd, hkd⟩ : ∃ kd : Int, kd = t.kind := ⟨_, rfl⟩
      obtain ⟨U, hU⟩ : ∃ U, U = bs t.text := ⟨_, rfl⟩
      obtain ⟨G, hGl⟩ : ∃ G, G = bs t.glyph := ⟨_, rfl⟩
      rw [← hkd] at x0
      rw [← hU] at x1
      rw [← hGl] at x2
      rw [← hkd, ← hU, ← hGl] at hfo hfc
      have HQ : Hid (t.kind = kd ∧ bs t.text = U ∧ bs t.glyph = G) := Lib.hid ⟨hkd.symm, hU.symm, hGl.symm⟩
      have HX : Hid (∀ W, Below w.heap.size w W → W.cell? ⟨g, o + k * 3, none⟩ = some (.int .i64 kd) ∧ W.cell? ⟨g, o + k * 3 + 1, none⟩ = some (.string U) ∧ W.cell? ⟨g, o + k * 3 + 2, none⟩ = some (.string G)) := Lib.hid (fun W hb =>
        ⟨(hb.cell (p := ⟨g, o + k * 3, none⟩) hg).trans x0, (hb.cell (p := ⟨g, o + k * 3 + 1, none⟩) hg).trans x1, (hb.cell (p := ⟨g, o + k * 3 + 2, none⟩) hg).trans x2⟩)
      have H1 : Hid (∀ (j : Nat) (u : Value), [Value.int .i64 (-1)][j]? = some u → (wr.alloc (.cells #[.int .i64 (-1)] 3)).cell? ((⟨wr.heap.size, 0, none⟩ : Addr).add j) = some u) :=
        Lib.hid (World.news_of_block (World.alloc_heap_new wr (.cells #[.int .i64 (-1)] 3)))
      have H2 : Hid (∀ u ∈ [Value.int .i64 (-1)], u.oneCell' = true) := Lib.hid (by intro u hu; simp at hu; subst hu; rfl)
      have H3 : Hid ((parts k s.2).length + 1 ≤ maxLen ∧ ((parts k s.2).length + 1) * 8 ≤ 140737488355328) := Lib.hid (by rw [parts_len]; exact ⟨by unfold maxLen; omega, by omega⟩)
      have H5 : Hid (w.heap.size ≤ (wr.alloc (.cells #[.int .i64 (-1)] 3)).heap.size) := Lib.hid (by rw [World.size_alloc]; omega)
      have HT0 := Lib.hid (HTW.out.alloc (.cells #[.int .i64 (-1)] 3))
      have HPS := Lib.hid hps
      have HFO := Lib.hid hfo
      have HFC := Lib.hid hfc
      have HNX := Lib.hid hnext
      have HCS := Lib.hid hcs
      have HT := Lib.hid ht
      have HINV := Lib.hid hinv
      clear hfo hfc hnext hps hpo hcs x0 x1 x2 hkd hU hGl hv ht hinv
      go_wp2_with (at_builtin; refine wpList_append_lies _ rfl (.tmp 15) (.tmp 16) 25 rfl w.heap.size 3 i0 (.int .i64 0) 1 8 Tryd.underlying25 hi hz0 hz1 hz2 rfl (by decide) u4 (parts k s.2).length (nums (parts k s.2)) rfl HT0.out.a ⟨wr.heap.size, 0, none⟩ 1 1 [.int .i64 (-1)] rfl rfl H1.out H2.out (by decide) H3.out.1 H3.out.2 H5.out _ rfl ?_; intro g1 cap1 w1 hown1 hgrow1 hat1 hlt1; have HT1 := Lib.hid (HT0.out.appA rfl hown1 hgrow1 hat1); have HB1 := Lib.hid ((HB.out.alloc hbs _).grown hgrow1 H5.out (fun j ej => (HT0.out.a.lt j ej).1)); obtain ⟨y0, y1, y2⟩ := HX.out w1 HB1.out; clear hown1 hgrow1 hat1 hlt1)
      obtain ⟨P, hP⟩ : ∃ P, P = parts (k + 1) s.2 := ⟨_, rfl⟩
      have hT1 := HT1.out
      rw [← HPS.out, ← hP, parts_len] at hT1
      rw [parts_len]
      have hPl : P.length = k + 1 := by rw [hP, parts_len]
      have HT1 := Lib.hid hT1
      have HP := Lib.hid hP
      have HPL := Lib.hid hPl
      obtain ⟨S, hS⟩ : ∃ S, S = stk s.1 := ⟨_, rfl⟩
      have hSl : S.length = s.1.length := by rw [hS, stk_len]
      have hT1 := HT1.out
      rw [← hS] at hT1
      have HT1 := Lib.hid hT1
      obtain ⟨sl, hsl'⟩ : ∃ sl, sl = S.length := ⟨_, rfl⟩
      have hslk : sl ≤ 1000 := by omega
      have HSL := Lib.hid hsl'
      have HSS := Lib.hid hSl
      have HSK := Lib.hid hS
      have hb1 := HB1.out.size
      clear hT1 hP hPl hS hSl hsl' H1 H2 H3 H5 HT0 HPS HTW HB
      by_cases hO : isO t = true
      · have hC := isO_isC hO
        have hfo := HFO.out
        have hfc := HFC.out
        rw [hO] at hfo
        rw [hC] at hfc
        have HFO := Lib.hid hfo
        have HFC := Lib.hid hfc
        have hnx : stAt L (k + 1) = some ((k, t) :: s.1, s.2) := by rw [HNX.out]; unfold step1; rw [if_pos hO]
        have hdx : dmax L (k + 1) = max dp (sl + 1) := by
          have e1 := dpt_some hnx
          unfold dmax
          rw [HT.out]
          simp only [hO, if_true]
          rw [e1, HDP.out, HSL.out, HSS.out]
          rfl
        have HNX := Lib.hid hnx
        have HDX := Lib.hid hdx
        clear hO hC hfo hfc hnx hdx
        refine (HFO.out _).mono ?_
        rintro e w2 ⟨rfl, hb2⟩
        have HT2 := Lib.hid (HT1.out.below hb2)
        have HB2 := Lib.hid (HB1.out.trans (hb2.mono hb1))
        have hb2s := HB2.out.size
        have H1 : Hid (∀ (j : Nat) (u : Value), [Value.int .i64 (k : Int)][j]? = some u → (w2.alloc (.cells #[.int .i64 (k : Int)] 3)).cell? ((⟨w2.heap.size, 0, none⟩ : Addr).add j) = some u) :=
          Lib.hid (World.news_of_block (World.alloc_heap_new w2 (.cells #[.int .i64 (k : Int)] 3)))
        have H2 : Hid (∀ u ∈ [Value.int .i64 (k : Int)], u.oneCell' = true) := Lib.hid (by intro u hu; simp at hu; subst hu; rfl)
        have H3 : Hid (sl + 1 ≤ maxLen ∧ (sl + 1) * 8 ≤ 140737488355328) := Lib.hid ⟨by unfold maxLen; omega, by omega⟩
        have H5 : Hid (w.heap.size ≤ (w2.alloc (.cells #[.int .i64 (k : Int)] 3)).heap.size) := Lib.hid (by rw [World.size_alloc]; omega)
        have HT3 := Lib.hid (HT2.out.alloc (.cells #[.int .i64 (k : Int)] 3))
        have HTB : Hid ((w2.alloc (.cells #[.int .i64 (k : Int)] 3)).ownsRow w.heap.size 3 1 u5 sl (nums S)) := Lib.hid (by rw [HSL.out]; exact HT3.out.b)
        clear hb2 y0 y1 y2
        by_cases hmx : dp < sl + 1
        · have hm1 : ((dp : Int) < (sl : Int) + 1) := by omega
          have HMX : Hid (((dmax L (k + 1) : Nat) : Int) = (sl : Int) + 1) := Lib.hid (by rw [HDX.out]; omega)
          clear hmx
          go_wp2_with (at_builtin; refine wpList_append_lies _ rfl (.tmp 23) (.tmp 25) 25 rfl w.heap.size 3 i0 (.int .i64 0) 1 8 Tryd.underlying25 hi hz0 hz1 hz2 rfl (by decide) u5 sl (nums S) rfl HTB.out ⟨w2.heap.size, 0, none⟩ 1 1 [.int .i64 (k : Int)] rfl rfl H1.out H2.out (by decide) H3.out.1 H3.out.2 H5.out _ rfl ?_; intro g2 cap2 w3 hown2 hgrow2 hat2 hlt2; have HT4 := Lib.hid (HT3.out.appB HSL.out hown2 hgrow2 hat2); have HB3 := Lib.hid ((HB2.out.alloc hb2s _).grown hgrow2 H5.out (fun j ej => (HT3.out.b.lt j ej).1)); obtain ⟨z0, z1, z2⟩ := HX.out w3 HB3.out; clear hown2 hgrow2 hat2 hlt2)
          refine (HFC.out _).mono ?_
          rintro e w4 ⟨rfl, hb4⟩
          have HT5 := Lib.hid (HT4.out.below hb4)
          have HB4 := Lib.hid (HB3.out.trans (hb4.mono HB3.out.size))
          clear hb4 z0 z1 z2
          go_wp2_with fail
          go_roundw
          case rel =>
            refine ⟨k + 1, _, by omega, by go_num, HNX.out, by rw [HMX.out], ?_, HB4.out⟩
            dsimp only
            rw [← HP.out, stk_cons, ← HSK.out]
            exact HT5.out
          case measure => simp [intOf]; omega
        · have hm1 : ¬ ((dp : Int) < (sl : Int) + 1) := by omega
          have HMX : Hid (((dmax L (k + 1) : Nat) : Int) = (dp : Int)) := Lib.hid (by rw [HDX.out]; omega)
          clear hmx
          go_wp2_with (at_builtin; refine wpList_append_lies _ rfl (.tmp 23) (.tmp 25) 25 rfl w.heap.size 3 i0 (.int .i64 0) 1 8 Tryd.underlying25 hi hz0 hz1 hz2 rfl (by decide) u5 sl (nums S) rfl HTB.out ⟨w2.heap.size, 0, none⟩ 1 1 [.int .i64 (k : Int)] rfl rfl H1.out H2.out (by decide) H3.out.1 H3.out.2 H5.out _ rfl ?_; intro g2 cap2 w3 hown2 hgrow2 hat2 hlt2; have HT4 := Lib.hid (HT3.out.appB HSL.out hown2 hgrow2 hat2); have HB3 := Lib.hid ((HB2.out.alloc hb2s _).grown hgrow2 H5.out (fun j ej => (HT3.out.b.lt j ej).1)); obtain ⟨z0, z1, z2⟩ := HX.out w3 HB3.out; clear hown2 hgrow2 hat2 hlt2)
          refine (HFC.out _).mono ?_
          rintro e w4 ⟨rfl, hb4⟩
          have HT5 := Lib.hid (HT4.out.below hb4)
          have HB4 := Lib.hid (HB3.out.trans (hb4.mono HB3.out.size))
          clear hb4 z0 z1 z2
          go_wp2_with fail
          go_roundw
          case rel =>
            refine ⟨k + 1, _, by omega, by go_num, HNX.out, by rw [HMX.out], ?_, HB4.out⟩
            dsimp only
            rw [← HP.out, stk_cons, ← HSK.out]
            exact HT5.out
          case measure => simp [intOf]; omega
      · have hO' : isO t = false := by simpa using hO
        have hfo := HFO.out
        rw [hO'] at hfo
        have HFO := Lib.hid hfo
        have hdx : dmax L (k + 1) = dp := by
          rw [HDP.out]
          conv => lhs; unfold dmax
          rw [HT.out]
          simp [hO']
        have HDX := Lib.hid hdx
        clear hfo hdx
        refine (HFO.out _).mono ?_
        rintro e w2 ⟨rfl, hb2⟩
        have HT2 := Lib.hid (HT1.out.below hb2)
        have HB2 := Lib.hid (HB1.out.trans (hb2.mono hb1))
        have hb2s := HB2.out.size
        obtain ⟨z0, z1, z2⟩ := HX.out w2 HB2.out
        clear hb2 y0 y1 y2
        go_wp2_with fail
        by_cases hC : isC t = true
        · have hfc := HFC.out
          rw [hC] at hfc
          have HFC := Lib.hid hfc
          clear hfc
          refine (HFC.out _).mono ?_
          rintro e w3 ⟨rfl, hb3⟩
          have HT3 := Lib.hid (HT2.out.below hb3)
          have HB3 := Lib.hid (HB2.out.trans (hb3.mono hb2s))
          clear hb3 z0 z1 z2
          cases hst : s.1 with
          | nil =>
            have hz : sl = 0 := by rw [HSL.out, HSS.out, hst]; rfl
            have hno : stAt L (k + 1) = none := by rw [HNX.out]; unfold step1; rw [if_neg hO, if_pos hC, hst]
            have HMM : Hid (M = ([], 60)) := Lib.hid (by
              rw [HM.out]
              apply matchA_none
              have := stAt_none hno (n - (k + 1))
              rwa [Nat.add_sub_cancel' hlt, HN.out] at this)
            obtain ⟨b5, d5, rfl⟩ := own_form HT3.out.b
            rw [← HSL.out, hz]
            clear hz hno hst hO hC hO'
            go_wp2_with fail
            go_quiet (fail)
            go_wp2_with fail
            refine bodyPost_ret (v := .tuple #[.slice none 0 0, .int .i64 60]) (by simp [results, Tryd.f13, go_sem]) rfl ⟨_, by rw [HMM.out]; rfl, by rw [HMM.out]; exact IOwn.nil _ _, Rs.below_dn HB3.out _⟩
          | cons x st =>
            obtain ⟨a, y⟩ := x
            obtain ⟨w1a, w2a, w3a, _⟩ := HINV.out.wait [] a y st hst
            obtain ⟨x0, x1, x2⟩ := HCS.out a y w2a
            have hfp := partners_r y t
            rw [← fit_eq w3a hC] at hfp
            unfold tv at hfp
            obtain ⟨kd2, hkd⟩ : ∃ kd : Int, kd = y.kind := ⟨_, rfl⟩
            obtain ⟨U2, hU⟩ : ∃ U, U = bs y.text := ⟨_, rfl⟩
            obtain ⟨G2, hGl⟩ : ∃ G, G = bs y.glyph := ⟨_, rfl⟩
            obtain ⟨q1, q2, q3⟩ := HQ.out
            rw [← hkd] at x0
            rw [← hU] at x1
            rw [← hGl] at x2
            rw [← hkd, ← hU, ← hGl, q1, q2, q3] at hfp
            have HY : Hid (∀ W, Below w.heap.size w W → W.cell? ⟨g, o + a * 3, none⟩ = some (.int .i64 kd2) ∧ W.cell? ⟨g, o + a * 3 + 1, none⟩ = some (.string U2) ∧ W.cell? ⟨g, o + a * 3 + 2, none⟩ = some (.string G2)) := Lib.hid (fun W hb =>
              ⟨(hb.cell (p := ⟨g, o + a * 3, none⟩) hg).trans x0, (hb.cell (p := ⟨g, o + a * 3 + 1, none⟩) hg).trans x1, (hb.cell (p := ⟨g, o + a * 3 + 2, none⟩) hg).trans x2⟩)
            obtain ⟨S', hS'⟩ : ∃ S', S' = stk st := ⟨_, rfl⟩
            have hSe : S = S' ++ [(a : Int)] := by rw [HSK.out, hst, stk_cons, hS']
            have hsl1 : sl = S'.length + 1 := by rw [HSL.out, hSe]; simp
            obtain ⟨m, hm⟩ : ∃ m, m = S'.length := ⟨_, rfl⟩
            rw [← hm] at hsl1
            have hb3 := HT3.out.b
            obtain ⟨g2, cap2, rfl, hg2, hg2l⟩ := hb3.form (by rw [hSe]; simp)
            rw [← HSL.out, hsl1]
            have s0 : w3.cell? ⟨g2, m, none⟩ = some (.int .i64 (a : Int)) := by
              rw [hb3.cellAt m (by rw [hSe]; simp; omega), hSe]
              apply nums_at
              rw [hm, List.getElem?_append_right (Nat.le_refl _), Nat.sub_self]
              rfl
            obtain ⟨y0, y1, y2⟩ := HY.out w3 HB3.out
            obtain ⟨z0, z1, z2⟩ := HX.out w3 HB3.out
            have HFP := Lib.hid hfp
            have HSE := Lib.hid hSe
            have HSP := Lib.hid hS'
            have HMS := Lib.hid hm
            have han : a < n := by omega
            have hrl : (m : Int) < (m : Int) + 1 := by omega
            have hwr : IntKind.wrap .i64 (m : Int) = (m : Int) := by unfold IntKind.wrap; simp [IntKind.signed, IntKind.bits]; omega
            have HC3 : Hid (w3.cell? ⟨g2, m, none⟩ = some (.int .i64 (a : Int)) ∧ (w3.cell? ⟨g, o + a * 3, none⟩ = some (.int .i64 kd2) ∧ w3.cell? ⟨g, o + a * 3 + 1, none⟩ = some (.string U2) ∧ w3.cell? ⟨g, o + a * 3 + 2, none⟩ = some (.string G2)) ∧ w3.cell? ⟨g, o + k * 3, none⟩ = some (.int .i64 kd) ∧ w3.cell? ⟨g, o + k * 3 + 1, none⟩ = some (.string U) ∧ w3.cell? ⟨g, o + k * 3 + 2, none⟩ = some (.string G)) := Lib.hid ⟨s0, ⟨y0, y1, y2⟩, z0, z1, z2⟩
            clear hfp hSe hS' hm hb3 hkd hU hGl x0 x1 x2 hsl1 w2a w3a
            have hnum : (((m : Int) + 1) == 0) = false := by simp; omega
            have hcap := own_cap HT3.out.b
            have hcap1 : m ≤ cap2 := by have := HSL.out; have := HMS.out; have := HSE.out; rw [this, List.length_append] at hcap; simp at hcap; omega
            have hcap2 := hcap.2
            clear hcap
            go_wp2_with fail
            cases hf : fit y t with
            | false =>
              rw [hf] at HFP
              have hno : stAt L (k + 1) = none := by rw [HNX.out]; unfold step1; rw [if_neg hO, if_pos hC, hst]; simp [hf]
              have HMM : Hid (M = ([], 60)) := Lib.hid (by
                rw [HM.out]
                apply matchA_none
                have := stAt_none hno (n - (k + 1))
                rwa [Nat.add_sub_cancel' hlt, HN.out] at this)
              clear hno hst hf hO hC hO'
              go_region_held_law (fun w' => w'.cell? ⟨g2, m, none⟩ = some (.int .i64 (a : Int)) ∧ (w'.cell? ⟨g, o + a * 3, none⟩ = some (.int .i64 kd2) ∧ w'.cell? ⟨g, o + a * 3 + 1, none⟩ = some (.string U2) ∧ w'.cell? ⟨g, o + a * 3 + 2, none⟩ = some (.string G2)) ∧ w'.cell? ⟨g, o + k * 3, none⟩ = some (.int .i64 kd) ∧ w'.cell? ⟨g, o + k * 3 + 1, none⟩ = some (.string U) ∧ w'.cell? ⟨g, o + k * 3 + 2, none⟩ = some (.string G))
                (first
                  | exact HC4.out
                  | exact HC3.out
                  | go_keep)
                ((first
                  | (go_at_call 31; refine (HFP.out _).mono ?_; rintro e w4 ⟨rfl, hb4⟩; have HB4 := Lib.hid (HB3.out.drew.trans (hb4.mono HB3.out.size)); have HC4 := Lib.hid (And.intro ((hb4.cell (p := ⟨g2, m, none⟩) hg2l).trans HC3.out.1) (And.intro (HY.out w4 HB4.out) (HX.out w4 HB4.out))); have HT4 := Lib.hid (HT3.out.below ((Below.refl w3.heap.size w3).drew.trans hb4)); clear hb4)))
              go_wp2_with fail
              refine bodyPost_ret (v := .tuple #[.slice none 0 0, .int .i64 60]) (by simp [results, Tryd.f13, go_sem]) rfl ⟨_, by rw [HMM.out]; rfl, by rw [HMM.out]; exact IOwn.nil _ _, HB4.out⟩
            | true =>
              rw [hf] at HFP
              have HNX2 : Hid (stAt L (k + 1) = some (st, (a, k) :: s.2)) := Lib.hid (by rw [HNX.out]; unfold step1; rw [if_neg hO, if_pos hC, hst]; simp [hf])
              clear hst hf hO hC hO'
              go_region_held_law (fun w' => w'.cell? ⟨g2, m, none⟩ = some (.int .i64 (a : Int)) ∧ (w'.cell? ⟨g, o + a * 3, none⟩ = some (.int .i64 kd2) ∧ w'.cell? ⟨g, o + a * 3 + 1, none⟩ = some (.string U2) ∧ w'.cell? ⟨g, o + a * 3 + 2, none⟩ = some (.string G2)) ∧ w'.cell? ⟨g, o + k * 3, none⟩ = some (.int .i64 kd) ∧ w'.cell? ⟨g, o + k * 3 + 1, none⟩ = some (.string U) ∧ w'.cell? ⟨g, o + k * 3 + 2, none⟩ = some (.string G))
                (first
                  | exact HC4.out
                  | exact HC3.out
                  | go_keep)
                ((first
                  | (go_at_call 31; refine (HFP.out _).mono ?_; rintro e w4 ⟨rfl, hb4⟩; have HB4 := Lib.hid (HB3.out.drew.trans (hb4.mono HB3.out.size)); have HC4 := Lib.hid (And.intro ((hb4.cell (p := ⟨g2, m, none⟩) hg2l).trans HC3.out.1) (And.intro (HY.out w4 HB4.out) (HX.out w4 HB4.out))); have HT4 := Lib.hid (HT3.out.below ((Below.refl w3.heap.size w3).drew.trans hb4)); clear hb4)))
              have hT4 := HT4.out
              rw [HSE.out] at hT4
              have hT5 := hT4.popB
              rw [← HMS.out] at hT5
              have hT5a := hT5.a
              rw [show (k + 1 : Nat) = P.length from HPL.out.symm] at hT5
              have hT6 := hT5.setA a (k : Int)
              have hT7 := hT6.setA k (a : Int)
              obtain ⟨za, hza⟩ : ∃ z, P[a]? = some z := ⟨_, List.getElem?_eq_getElem (by rw [HPL.out]; omega)⟩
              obtain ⟨zk, hzk⟩ : ∃ z, (P.set a (k : Int))[k]? = some z := ⟨_, List.getElem?_eq_getElem (by rw [List.length_set, HPL.out]; omega)⟩
              have e0 : w4.cell? ⟨g1, a, none⟩ = some (.int .i64 za) := by rw [hT5.a.cellAt a (by rw [HPL.out]; omega)]; exact nums_at hza
              have e1 : w4.frozen? ⟨g1, a, none⟩ = false := hT5.a.frozenAt a
              have e2 : (w4.setCell ⟨g1, a, none⟩ (.int .i64 (k : Int))).cell? ⟨g1, k, none⟩ = some (.int .i64 zk) := by rw [hT6.a.cellAt k (by rw [List.length_set, HPL.out]; omega)]; exact nums_at hzk
              have e3 : (w4.setCell ⟨g1, a, none⟩ (.int .i64 (k : Int))).frozen? ⟨g1, k, none⟩ = false := hT6.a.frozenAt k
              have e4 := HC4.out.1
              have hgb : w.heap.size ≤ g1 := (hT5.a.lt g1 rfl).1
              have HB6 : Hid (Below w.heap.size w ((w4.setCell ⟨g1, a, none⟩ (.int .i64 (k : Int))).setCell ⟨g1, k, none⟩ (.int .i64 (a : Int)))) := Lib.hid ((HB4.out.setCell hgb _).setCell hgb _)
              have HT7 : Hid (Two ((w4.setCell ⟨g1, a, none⟩ (.int .i64 (k : Int))).setCell ⟨g1, k, none⟩ (.int .i64 (a : Int))) w.heap.size (.slice (some ⟨g1, 0, none⟩) (k + 1) cap1) (.slice (some ⟨g2, 0, none⟩) m cap2) (parts (k + 1) ((a, k) :: s.2)) (stk st)) := Lib.hid (by
                rw [List.length_set, List.length_set, HPL.out] at hT7
                rw [parts_put _ _ _ _ (by omega), ← HP.out, ← HSP.out]
                exact hT7)
              have hak : a < k + 1 := by omega
              clear hT4 hT5 hT5a hT6 hT7 hza hzk
              go_wp2_with fail
              go_roundw
              case rel =>
                refine ⟨k + 1, _, by omega, by go_num, HNX2.out, by rw [HDX.out], HT7.out, HB6.out⟩
              case measure => simp [intOf]; omega
        · have hfc := HFC.out
          have hC' : isC t = false := by simpa using hC
          rw [hC'] at hfc
          have HFC := Lib.hid hfc
          have HNX2 : Hid (stAt L (k + 1) = some s) := Lib.hid (by rw [HNX.out]; unfold step1; rw [if_neg hO, if_neg hC])
          clear hfc hO hO' hC hC'
          refine (HFC.out _).mono ?_
          rintro e w3 ⟨rfl, hb3⟩
          have HT3 := Lib.hid (HT2.out.below hb3)
          have HB3 := Lib.hid (HB2.out.trans (hb3.mono hb2s))
          clear hb3 z0 z1 z2
          go_wp2_with fail
          go_roundw
          case rel =>
            refine ⟨k + 1, _, by omega, by go_num, HNX2.out, by rw [HDX.out], ?_, HB3.out⟩
            rw [← HP.out, ← HSK.out]
            exact HT3.out
          case measure => simp [intOf]; omega
    · obtain rfl : k = n := by omega
      have hkk : stAt L L.length = some s := by rw [← HN.out]; exact HS.out
      have hdd : dp = dmax L L.length := by rw [HDP.out, HN.out]
      cases hst : s.1 with
      | nil =>
        have hS0 : (stk s.1).length = 0 := by rw [hst]; rfl
        obtain ⟨b5, d5, rfl⟩ := own_form HTW.out.b
        rw [hS0]
        by_cases h20 : 20 < dp
        · have HMM : Hid (M = ([], 61)) := Lib.hid (by rw [HM.out]; exact matchA_deep hkk hst (by rw [← hdd]; exact h20))
          have h21 : decide ((20 : Int) < (dp : Int)) = true := by simp; omega
          clear hkk hdd hst h20 hS0
          go_wp2_with fail
          refine bodyPost_ret (v := .tuple #[.slice none 0 0, .int .i64 61]) (by simp [results, Tryd.f13, go_sem]) rfl ⟨_, by rw [HMM.out]; rfl, by rw [HMM.out]; exact IOwn.nil _ _, HB.out⟩
        · have HMM : Hid (M = (parts k s.2, 0)) := Lib.hid (by rw [HM.out, matchA_ok hkk hst (by rw [← hdd]; exact h20), ← HN.out])
          have h21 : decide ((20 : Int) < (dp : Int)) = false := by simp; omega
          clear hkk hdd hst h20 hS0
          go_wp2_with fail
          refine bodyPost_ret (v := .tuple #[u4, .int .i64 0]) (by simp [results, Tryd.f13, go_sem]) rfl ⟨_, by rw [HMM.out]; rfl, by rw [HMM.out]; exact HTW.out.a, HB.out⟩
      | cons x st =>
        have HMM : Hid (M = ([], 60)) := Lib.hid (by rw [HM.out]; exact matchA_wait hkk (by rw [hst]; simp))
        obtain ⟨m, hm⟩ : ∃ m, (stk s.1).length = m + 1 := ⟨st.length, by rw [stk_len, hst]; rfl⟩
        obtain ⟨b5, d5, rfl⟩ := own_form HTW.out.b
        rw [hm]
        have hml : 0 < m + 1 := by omega
        clear hkk hdd hst hm
        go_wp2_with fail
        refine bodyPost_ret (v := .tuple #[.slice none 0 0, .int .i64 60]) (by simp [results, Tryd.f13, go_sem]) rfl ⟨_, by rw [HMM.out]; rfl, by rw [HMM.out]; exact IOwn.nil _ _, HB.out⟩
end Go.Proofs.YthbiflmmlcmncaaDoor.Ti
