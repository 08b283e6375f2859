/- The plain Deep. -/
import Derived.Test.YthbiflmmlcmncaaDoorGyA
import Derived.Test.YthbiflmmlcmncaaDoorGrRMatch
namespace Go.Proofs.YthbiflmmlcmncaaDoor.Ti
open Go Go.RowKit Go.Shelf
attribute [local go_sem] Oper.semAt_some

set_option maxRecDepth 100000 in
set_option maxHeartbeats 8000000 in
theorem rdeep_c (w : World) (v : Value) (L : List Tk) (h : TL w v L) (hl : L.length ≤ 1000) :
    Calls Tryd.prog 15 #[v] w fun e W' => ∃ v', e = .returned (.tuple #[v', .int .i64 ((errA L : Nat) : Int)]) ∧ IOwn W' w.heap.size v' (deepA L) ∧ Below w.heap.size w W' := by
  obtain ⟨i0, hi, hz0, hz1, hz2⟩ := infoI
  have hmc := rmatch_c w v L h hl
  obtain ⟨a0, c0, rfl, hc1, hc2⟩ := h.form
  unfold maxLen at hc2
  have HCL := Lib.hid h.cells
  obtain ⟨n, hn⟩ : ∃ n, n = L.length := ⟨_, rfl⟩
  rw [← hn] at hc1 HCL hl hmc ⊢
  have HN := Lib.hid hn
  obtain ⟨E, hE⟩ : ∃ E, E = errA L := ⟨_, rfl⟩
  change Calls _ _ _ _ fun e W' => ∃ v', e = .returned (.tuple #[v', .int .i64 ((errA L : Nat) : Int)]) ∧ _ at hmc
  rw [← hE] at hmc ⊢
  obtain ⟨D, hD⟩ : ∃ D, D = deepA L := ⟨_, rfl⟩
  rw [← hD]
  have HD := Lib.hid hD
  have HE := Lib.hid hE
  have HMC := Lib.hid hmc
  clear h hn hE hmc hD
  go_enter Tryd.func15, Tryd.ntmps15
  go_wp2_with fail
  refine HMC.out.mono ?_
  rintro e w1 ⟨v1, rfl, hv1, hb1⟩
  have HB1 := Lib.hid hb1
  have hb1s := hb1.size
  clear hv1 hb1
  by_cases h0 : E = 0
  · have HA : Hid (D = deps L n) := Lib.hid (by rw [HD.out]; unfold deepA; rw [if_pos (HE.out ▸ h0), HN.out])
    obtain ⟨ps, hps, _, _⟩ := errA_ok (HE.out ▸ h0)
    have HPS := Lib.hid hps
    subst h0
    clear hps
    go_wp2_with fail
    go_loopw [6, 7, 8] (fun o d i wr => ∃ k : Nat, k ≤ n ∧ i = .int .i64 k ∧ d = .int .i64 ((dpt L k : Nat) : Int) ∧ IOwn wr w.heap.size o (deps L k) ∧ Below w.heap.size w wr)
      (fun _ _ i _ => n - (intOf i).toNat)
    case atStart => exact ⟨0, Nat.zero_le _, rfl, rfl, IOwn.nil _ _, HB1.out⟩
    case round =>
      obtain ⟨k, hk, rfl, rfl, ho, hB⟩ := hrel
      have HO := Lib.hid ho
      have HB := Lib.hid hB
      have hbs := hB.size
      clear ho hB
      have hdk : dpt L k ≤ 1000 := by
        obtain ⟨s, hs⟩ := stAt_some HPS.out (show k ≤ L.length by rw [← HN.out]; exact hk)
        rw [dpt_some hs]
        have := st_len k s (by rw [← HN.out]; exact hk) hs
        omega
      obtain ⟨dk, hdd⟩ : ∃ d, d = dpt L k := ⟨_, rfl⟩
      rw [← hdd] at hdk ⊢
      have HDD := Lib.hid hdd
      clear hdd
      by_cases hlt : k < n
      · obtain ⟨g, o, c1, hv, hg, hcs⟩ := HCL.out (by omega)
        obtain rfl : a0 = some ⟨g, o, none⟩ := by injection hv
        obtain ⟨t, ht⟩ : ∃ t, L[k]? = some t := ⟨_, List.getElem?_eq_getElem (by rw [← HN.out]; exact hlt)⟩
        obtain ⟨x0, x1, x2⟩ := hcs k t ht
        obtain ⟨u, hu⟩ := stAt_some HPS.out (show k + 1 ≤ L.length by rw [← HN.out]; exact hlt)
        obtain ⟨st1, st2, st3⟩ := dpt_step ht hu
        have hdt := depT_at ht
        have hds := deps_succ L k
        have hfo := opens_c t
        have hfc := closes_c t
        unfold tv at hfo hfc
        obtain ⟨kd, hkd⟩ : ∃ kd : Int, kd = t.kind := ⟨_, rfl⟩
        obtain ⟨U, hU⟩ : ∃ U, U = bs t.text := ⟨_, rfl⟩
        obtain ⟨G, hGl⟩ : ∃ G, G = bs t.glyph := ⟨_, rfl⟩
        rw [← hkd] at x0
        rw [← hU] at x1
        rw [← hGl] at x2
        rw [← hkd, ← hU, ← hGl] at hfo hfc
        have HX : Hid (∀ W, Below w.heap.size w W → W.cell? ⟨g, o + k * 3, none⟩ = some (.int .i64 kd) ∧ W.cell? ⟨g, o + k * 3 + 1, none⟩ = some (.string U) ∧ W.cell? ⟨g, o + k * 3 + 2, none⟩ = some (.string G)) := Lib.hid (fun W hb =>
          ⟨(hb.cell (p := ⟨g, o + k * 3, none⟩) hg).trans x0, (hb.cell (p := ⟨g, o + k * 3 + 1, none⟩) hg).trans x1, (hb.cell (p := ⟨g, o + k * 3 + 2, none⟩) hg).trans x2⟩)
        have key : ∃ (co cc : Bool) (d : Nat), isO t = co ∧ isC t = cc ∧ depT L k = d ∧ d ≤ 1000 ∧ (cc = true → co = false ∧ dk = d + 1) ∧ (cc = false → dk = d) ∧ (dpt L (k + 1) = if co then d + 1 else d) := by
          refine ⟨_, _, _, rfl, rfl, rfl, ?_, ?_, ?_, ?_⟩
          · rw [hdt]
            split
            · rename_i hc
              have hO : isO t = false := by
                cases hO : isO t with
                | false => rfl
                | true => rw [isO_isC hO] at hc; cases hc
              have := st2 hO hc
              rw [← HDD.out] at this
              omega
            · rw [← HDD.out]; exact hdk
          · intro hc
            have hO : isO t = false := by
              cases hO : isO t with
              | false => rfl
              | true => rw [isO_isC hO] at hc; cases hc
            refine ⟨hO, ?_⟩
            rw [hdt, if_pos hc, HDD.out]
            exact st2 hO hc
          · intro hc
            rw [hdt, if_neg (by simp [hc]), HDD.out]
          · cases hO : isO t with
            | true =>
              show dpt L (k + 1) = depT L k + 1
              rw [hdt, if_neg (by simp [isO_isC hO])]
              exact st1 hO
            | false =>
              show dpt L (k + 1) = depT L k
              cases hC : isC t with
              | true => rw [hdt, if_pos hC]
              | false =>
                rw [hdt, if_neg (by simp [hC])]
                exact st3 hO hC
        obtain ⟨co, cc, d, k1, k2, k3, k4, k5, k6, k7⟩ := key
        rw [k1] at hfo
        rw [k2] at hfc
        rw [k3] at hds
        have HFO := Lib.hid hfo
        have HFC := Lib.hid hfc
        have HDS := Lib.hid hds
        have HK7 := Lib.hid k7
        have H1 : Hid (∀ (W : World) (j : Nat) (u : Value), [Value.int .i64 (d : Int)][j]? = some u → (W.alloc (.cells #[.int .i64 (d : Int)] 3)).cell? ((⟨W.heap.size, 0, none⟩ : Addr).add j) = some u) :=
          Lib.hid (fun W => World.news_of_block (World.alloc_heap_new W (.cells #[.int .i64 (d : Int)] 3)))
        have H2 : Hid (∀ u ∈ [Value.int .i64 (d : Int)], u.oneCell' = true) := Lib.hid (by intro u hu; simp at hu; subst hu; rfl)
        have H3 : Hid ((deps L k).length + 1 ≤ maxLen ∧ ((deps L k).length + 1) * 8 ≤ 140737488355328) := Lib.hid (by rw [deps_len]; exact ⟨by unfold maxLen; omega, by omega⟩)
        clear hcs hv hdt st1 st2 st3 k1 k2 k3 k7 hfo hfc hds hu hkd hU hGl x0 x1 x2 ht
        obtain ⟨y0, y1, y2⟩ := HX.out wr HB.out
        cases cc with
        | true =>
          obtain ⟨rfl, rfl⟩ := k5 rfl
          have es : ((d + 1 : Nat) : Int) - 1 = (d : Int) := by omega
          go_wp2_with fail
          refine (HFC.out _).mono ?_
          rintro e w2 ⟨rfl, hb2⟩
          have HO2 := Lib.hid (own_kept HO.out hb2)
          have HB2 := Lib.hid (HB.out.trans (hb2.mono hbs))
          have hb2s := HB2.out.size
          have HS5 : Hid (w.heap.size ≤ (w2.alloc (.cells #[.int .i64 (d : Int)] 3)).heap.size) := Lib.hid (by rw [World.size_alloc]; omega)
          clear hb2 y0 y1 y2
          go_wp2_with (at_builtin; refine wpList_append_lies _ rfl (.tmp 30) (.tmp 32) 25 rfl w.heap.size 3 i0 (.int .i64 0) 1 8 Tryd.underlying25 hi hz0 hz1 hz2 rfl (by decide) u6 (deps L k).length (nums (deps L k)) rfl (HO2.out.alloc _) ⟨w2.heap.size, 0, none⟩ 1 1 [.int .i64 (d : Int)] rfl rfl (H1.out w2) H2.out (by decide) H3.out.1 H3.out.2 HS5.out _ rfl ?_; intro g2 cap2 w3 hown2 hgrow2 hat2 hlt2; have HO3 := Lib.hid hown2; have HB3 := Lib.hid ((HB2.out.alloc hb2s _).grown hgrow2 HS5.out (fun j ej => (HO2.out.lt j ej).1)); obtain ⟨z0, z1, z2⟩ := HX.out w3 HB3.out; clear hown2 hgrow2 hat2 hlt2)
          refine (HFO.out _).mono ?_
          rintro e w4 ⟨rfl, hb4⟩
          have HO4 := Lib.hid (own_kept HO3.out hb4)
          have HB4 := Lib.hid (HB3.out.trans (hb4.mono HB3.out.size))
          clear hb4 z0 z1 z2
          go_wp2_with fail
          go_roundw
          case rel =>
            refine ⟨k + 1, by omega, by go_num, ?_, ?_, HB4.out⟩
            · rw [HK7.out]
              rfl
            · show World.ownsRow _ _ _ _ _ _ _
              rw [HDS.out, List.length_append, List.length_singleton, nums_snoc]
              exact HO4.out
          case measure => simp [intOf]; omega
        | false =>
          obtain rfl := (k6 rfl).symm
          cases co with
          | true =>
            go_wp2_with fail
            refine (HFC.out _).mono ?_
            rintro e w2 ⟨rfl, hb2⟩
            have HO2 := Lib.hid (own_kept HO.out hb2)
            have HB2 := Lib.hid (HB.out.trans (hb2.mono hbs))
            have hb2s := HB2.out.size
            have HS5 : Hid (w.heap.size ≤ (w2.alloc (.cells #[.int .i64 (d : Int)] 3)).heap.size) := Lib.hid (by rw [World.size_alloc]; omega)
            clear hb2 y0 y1 y2
            go_wp2_with (at_builtin; refine wpList_append_lies _ rfl (.tmp 30) (.tmp 32) 25 rfl w.heap.size 3 i0 (.int .i64 0) 1 8 Tryd.underlying25 hi hz0 hz1 hz2 rfl (by decide) u6 (deps L k).length (nums (deps L k)) rfl (HO2.out.alloc _) ⟨w2.heap.size, 0, none⟩ 1 1 [.int .i64 (d : Int)] rfl rfl (H1.out w2) H2.out (by decide) H3.out.1 H3.out.2 HS5.out _ rfl ?_; intro g2 cap2 w3 hown2 hgrow2 hat2 hlt2; have HO3 := Lib.hid hown2; have HB3 := Lib.hid ((HB2.out.alloc hb2s _).grown hgrow2 HS5.out (fun j ej => (HO2.out.lt j ej).1)); obtain ⟨z0, z1, z2⟩ := HX.out w3 HB3.out; clear hown2 hgrow2 hat2 hlt2)
            refine (HFO.out _).mono ?_
            rintro e w4 ⟨rfl, hb4⟩
            have HO4 := Lib.hid (own_kept HO3.out hb4)
            have HB4 := Lib.hid (HB3.out.trans (hb4.mono HB3.out.size))
            clear hb4 z0 z1 z2
            go_wp2_with fail
            go_roundw
            case rel =>
              refine ⟨k + 1, by omega, by go_num, ?_, ?_, HB4.out⟩
              · rw [HK7.out]
                rfl
              · show World.ownsRow _ _ _ _ _ _ _
                rw [HDS.out, List.length_append, List.length_singleton, nums_snoc]
                exact HO4.out
            case measure => simp [intOf]; omega
          | false =>
            go_wp2_with fail
            refine (HFC.out _).mono ?_
            rintro e w2 ⟨rfl, hb2⟩
            have HO2 := Lib.hid (own_kept HO.out hb2)
            have HB2 := Lib.hid (HB.out.trans (hb2.mono hbs))
            have hb2s := HB2.out.size
            have HS5 : Hid (w.heap.size ≤ (w2.alloc (.cells #[.int .i64 (d : Int)] 3)).heap.size) := Lib.hid (by rw [World.size_alloc]; omega)
            clear hb2 y0 y1 y2
            go_wp2_with (at_builtin; refine wpList_append_lies _ rfl (.tmp 30) (.tmp 32) 25 rfl w.heap.size 3 i0 (.int .i64 0) 1 8 Tryd.underlying25 hi hz0 hz1 hz2 rfl (by decide) u6 (deps L k).length (nums (deps L k)) rfl (HO2.out.alloc _) ⟨w2.heap.size, 0, none⟩ 1 1 [.int .i64 (d : Int)] rfl rfl (H1.out w2) H2.out (by decide) H3.out.1 H3.out.2 HS5.out _ rfl ?_; intro g2 cap2 w3 hown2 hgrow2 hat2 hlt2; have HO3 := Lib.hid hown2; have HB3 := Lib.hid ((HB2.out.alloc hb2s _).grown hgrow2 HS5.out (fun j ej => (HO2.out.lt j ej).1)); obtain ⟨z0, z1, z2⟩ := HX.out w3 HB3.out; clear hown2 hgrow2 hat2 hlt2)
            refine (HFO.out _).mono ?_
            rintro e w4 ⟨rfl, hb4⟩
            have HO4 := Lib.hid (own_kept HO3.out hb4)
            have HB4 := Lib.hid (HB3.out.trans (hb4.mono HB3.out.size))
            clear hb4 z0 z1 z2
            go_wp2_with fail
            go_roundw
            case rel =>
              refine ⟨k + 1, by omega, by go_num, ?_, ?_, HB4.out⟩
              · rw [HK7.out]
                rfl
              · show World.ownsRow _ _ _ _ _ _ _
                rw [HDS.out, List.length_append, List.length_singleton, nums_snoc]
                exact HO4.out
            case measure => simp [intOf]; omega
      · obtain rfl : k = n := by omega
        go_wp2_with fail
        refine bodyPost_ret (v := .tuple #[u6, .int .i64 0]) (by simp [results, Tryd.f15, go_sem]) rfl ⟨_, rfl, by rw [HA.out]; exact HO.out, HB.out⟩
  · obtain ⟨hA, _⟩ := errA_no (HE.out ▸ h0)
    have HA : Hid (D = []) := Lib.hid (by rw [HD.out]; unfold deepA; rw [if_neg (HE.out ▸ h0)])
    have hne : ((E : Int) == 0) = false := by simp; omega
    clear hA h0
    go_wp2_with fail
    refine bodyPost_ret (v := .tuple #[.slice none 0 0, .int .i64 (E : Int)]) (by simp [results, Tryd.f15, go_sem]) rfl ⟨_, rfl, by rw [HA.out]; exact IOwn.nil _ _, HB1.out⟩
end Go.Proofs.YthbiflmmlcmncaaDoor.Ti
