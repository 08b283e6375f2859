/- The plain Split, the plain Inside. -/
import Derived.Test.YthbiflmmlcmncaaDoorGyA
import Derived.Test.YthbiflmmlcmncaaDoorGrRDeep
namespace Go.Proofs.YthbiflmmlcmncaaDoor.Ti
open Go Go.RowKit Go.Shelf
attribute [local go_sem] Oper.semAt_some

set_option maxRecDepth 100000 in
set_option maxHeartbeats 8000000 in
theorem rsplit_c (w : World) (v : Value) (L : List Tk) (X : List UInt8) (h : TL w v L) (hl : L.length ≤ 1000) :
    Calls Tryd.prog 20 #[v, .string (bs X)] w fun e W' => ∃ v' VS, e = .returned (.tuple #[v', .int .i64 ((errA L : Nat) : Int)]) ∧ W'.ownsRow w.heap.size 22 1 v' VS.length VS ∧ PartsAt W' VS (splitA L X) ∧ Below w.heap.size w W' := by
  obtain ⟨i0, hi, hz0, hz1, hz2⟩ := infoS
  have hmc := rdeep_c w v L h hl
  have HTL := Lib.hid h
  obtain ⟨a0, c0, rfl, hc1, hc2⟩ := h.form
  unfold maxLen at hc2
  have HCL := Lib.hid h.cells
  obtain ⟨n, hn⟩ : ∃ n, n = L.length := ⟨_, rfl⟩
  rw [← hn] at hc1 HCL HTL hl hmc ⊢
  have HN := Lib.hid hn
  obtain ⟨E, hE⟩ : ∃ E, E = errA L := ⟨_, rfl⟩
  rw [← hE] at hmc ⊢
  obtain ⟨D, hD⟩ : ∃ D, D = splitA L X := ⟨_, rfl⟩
  rw [← hD]
  obtain ⟨xs, hxs⟩ : ∃ xs, xs = bs X := ⟨_, rfl⟩
  rw [← hxs]
  have HXS := Lib.hid hxs
  have HD := Lib.hid hD
  have HE := Lib.hid hE
  have HMC := Lib.hid hmc
  clear h hn hE hmc hD hxs
  go_enter Tryd.func20, Tryd.ntmps20
  go_wp2_with fail
  refine HMC.out.mono ?_
  rintro e w1 ⟨v1, rfl, hv1, hb1⟩
  have HB1 := Lib.hid hb1
  have hb1s := hb1.size
  by_cases h0 : E = 0
  · have HA : Hid (D = (splK L X n).1 ++ [cutL L (splK L X n).2 n]) := Lib.hid (by rw [HD.out]; unfold splitA; rw [if_pos (HE.out ▸ h0), HN.out])
    have hdp : deepA L = deps L n := by unfold deepA; rw [if_pos (HE.out ▸ h0), HN.out]
    rw [hdp] at hv1
    have HV1 := Lib.hid hv1
    subst h0
    clear hdp hv1 hb1
    go_wp2_with fail
    go_loopw [8, 9, 10] (fun o f i wr => ∃ (k : Nat) (VS : List Value), k ≤ n ∧ i = .int .i64 k ∧ f = .int .i64 (((splK L X k).2 : Nat) : Int) ∧ wr.ownsRow w1.heap.size 22 1 o VS.length VS ∧ PartsAt w VS (splK L X k).1 ∧ Below w1.heap.size w1 wr)
      (fun _ _ i _ => n - (intOf i).toNat)
    case atStart => exact ⟨0, [], Nat.zero_le _, rfl, rfl, World.ownsRow_nil _ _ _ _, PartsAt.nil _, Below.refl _ _⟩
    case round =>
      obtain ⟨k, VS, hk, rfl, rfl, ho, hPA, hB⟩ := hrel
      have HO := Lib.hid ho
      have HPA := Lib.hid hPA
      have HB := Lib.hid hB
      have HBW := Lib.hid (HB1.out.trans (hB.mono hb1s))
      have hbs := hB.size
      have hfk := splK_le L X k
      have hvl : VS.length ≤ k := by rw [hPA.len]; exact splK_len L X k
      obtain ⟨f, hf⟩ : ∃ f, f = (splK L X k).2 := ⟨_, rfl⟩
      rw [← hf] at hfk ⊢
      have HF := Lib.hid hf
      clear ho hPA hB hf
      by_cases hlt : k < n
      · obtain ⟨g, o, c1, hv, hg, hcs⟩ := HCL.out (by omega)
        obtain rfl : a0 = some ⟨g, o, none⟩ := by injection hv
        obtain ⟨t, ht⟩ : ∃ t, L[k]? = some t := ⟨_, List.getElem?_eq_getElem (by rw [← HN.out]; exact hlt)⟩
        obtain ⟨x0, x1, x2⟩ := hcs k t ht
        have hsep := sep_at X ht
        have hfo := opens_c t
        have hfc := closes_c t
        have hfs := risSign_c t X
        unfold tv at hfo hfc hfs
        obtain ⟨kd, hkd⟩ : ∃ kd : Int, kd = t.kind := ⟨_, rfl⟩
        obtain ⟨U, hU⟩ : ∃ U, U = bs t.text := ⟨_, rfl⟩
        obtain ⟨G, hGl⟩ : ∃ G, G = bs t.glyph := ⟨_, rfl⟩
        rw [← hkd] at x0
        rw [← hU] at x1
        rw [← hGl] at x2
        rw [← hkd, ← hU, ← hGl] at hfo hfc hfs
        rw [← HXS.out] at hfs
        have HX : Hid (∀ W, Below w.heap.size w W → W.cell? ⟨g, o + k * 3, none⟩ = some (.int .i64 kd) ∧ W.cell? ⟨g, o + k * 3 + 1, none⟩ = some (.string U) ∧ W.cell? ⟨g, o + k * 3 + 2, none⟩ = some (.string G)) := Lib.hid (fun W hb =>
          ⟨(hb.cell (p := ⟨g, o + k * 3, none⟩) hg).trans x0, (hb.cell (p := ⟨g, o + k * 3 + 1, none⟩) hg).trans x1, (hb.cell (p := ⟨g, o + k * 3 + 2, none⟩) hg).trans x2⟩)
        have hv1 := HV1.out
        obtain ⟨gd, cd, rfl, hgd1, hgd2⟩ := hv1.form (by rw [deps_len]; omega)
        have hdc : w1.cell? ⟨gd, k, none⟩ = some (.int .i64 ((depT L k : Nat) : Int)) := by
          rw [hv1.cellAt k (by rw [deps_len]; omega)]
          exact nums_at (deps_at L hlt)
        rw [deps_len]
        obtain ⟨dk, hdk⟩ : ∃ d, d = depT L k := ⟨_, rfl⟩
        rw [← hdk] at hdc hsep
        obtain ⟨bo, hbo⟩ : ∃ b, b = isO t := ⟨_, rfl⟩
        obtain ⟨bc, hbc⟩ : ∃ b, b = isC t := ⟨_, rfl⟩
        obtain ⟨bg, hbg⟩ : ∃ b, b = isSgn t X := ⟨_, rfl⟩
        rw [← hbo, ← hbc, ← hbg] at hsep
        rw [← hbo] at hfo
        rw [← hbc] at hfc
        rw [← hbg] at hfs
        have y0 : wr.cell? ⟨gd, k, none⟩ = some (.int .i64 (dk : Int)) := (HB.out.cell (p := ⟨gd, k, none⟩) hgd2).trans hdc
        obtain ⟨y1, y2, y3⟩ := HX.out wr HBW.out
        have HSEP := Lib.hid hsep
        have HFO := Lib.hid hfo
        have HFC := Lib.hid hfc
        have HFS := Lib.hid hfs
        have HSN : Hid (sep L X k = false → splK L X (k + 1) = splK L X k) := Lib.hid (fun e => by
          show (if sep L X k then _ else _) = _
          rw [if_neg (by rw [e]; decide)])
        have HSY : Hid (sep L X k = true → splK L X (k + 1) = ((splK L X k).1 ++ [cutL L f k], k + 1)) := Lib.hid (fun e => by
          show (if sep L X k then _ else _) = _
          rw [if_pos e, HF.out])
        clear hsep hfo hfc hfs hkd hU hGl x0 x1 x2 hv1 hdc hdk hbo hbc hbg ht hcs hv
        by_cases hd0 : dk = 0
        · subst hd0
          cases bg with
          | false =>
            have HSE : Hid (sep L X k = false) := Lib.hid (by rw [HSEP.out]; simp)
            go_wp2_with fail
            refine (HFS.out _).mono ?_
            rintro e w2 ⟨rfl, hb⟩
            have HO2 := Lib.hid (own_kept HO.out hb)
            have HB2 := Lib.hid (HB.out.trans (hb.mono (by have := HB.out.size; omega)))
            have HW2 := Lib.hid (HB1.out.trans (HB2.out.mono hb1s))
            obtain ⟨y1, y2, y3⟩ := HX.out w2 HW2.out
            clear hb
            go_wp2_with fail
            go_roundw
            case rel =>
              refine ⟨k + 1, VS, by omega, by go_num, ?_, HO2.out, ?_, HB2.out⟩
              · rw [HSN.out HSE.out, ← HF.out]
              · rw [HSN.out HSE.out]; exact HPA.out
            case measure => simp [intOf]; omega
          | true =>
            cases bo with
            | true =>
              have HSE : Hid (sep L X k = false) := Lib.hid (by rw [HSEP.out]; simp)
              go_wp2_with fail
              refine (HFS.out _).mono ?_
              rintro e w2 ⟨rfl, hb⟩
              have HO2 := Lib.hid (own_kept HO.out hb)
              have HB2 := Lib.hid (HB.out.trans (hb.mono (by have := HB.out.size; omega)))
              have HW2 := Lib.hid (HB1.out.trans (HB2.out.mono hb1s))
              obtain ⟨y1, y2, y3⟩ := HX.out w2 HW2.out
              clear hb
              go_wp2_with fail
              refine (HFO.out _).mono ?_
              rintro e w3 ⟨rfl, hb⟩
              have HO3 := Lib.hid (own_kept HO2.out hb)
              have HB3 := Lib.hid (HB2.out.trans (hb.mono (by have := HB2.out.size; omega)))
              have HW3 := Lib.hid (HB1.out.trans (HB3.out.mono hb1s))
              obtain ⟨y1, y2, y3⟩ := HX.out w3 HW3.out
              clear hb
              go_wp2_with fail
              go_roundw
              case rel =>
                refine ⟨k + 1, VS, by omega, by go_num, ?_, HO3.out, ?_, HB3.out⟩
                · rw [HSN.out HSE.out, ← HF.out]
                · rw [HSN.out HSE.out]; exact HPA.out
              case measure => simp [intOf]; omega
            | false =>
              cases bc with
              | true =>
                have HSE : Hid (sep L X k = false) := Lib.hid (by rw [HSEP.out]; simp)
                go_wp2_with fail
                refine (HFS.out _).mono ?_
                rintro e w2 ⟨rfl, hb⟩
                have HO2 := Lib.hid (own_kept HO.out hb)
                have HB2 := Lib.hid (HB.out.trans (hb.mono (by have := HB.out.size; omega)))
                have HW2 := Lib.hid (HB1.out.trans (HB2.out.mono hb1s))
                obtain ⟨y1, y2, y3⟩ := HX.out w2 HW2.out
                clear hb
                go_wp2_with fail
                refine (HFO.out _).mono ?_
                rintro e w3 ⟨rfl, hb⟩
                have HO3 := Lib.hid (own_kept HO2.out hb)
                have HB3 := Lib.hid (HB2.out.trans (hb.mono (by have := HB2.out.size; omega)))
                have HW3 := Lib.hid (HB1.out.trans (HB3.out.mono hb1s))
                obtain ⟨y1, y2, y3⟩ := HX.out w3 HW3.out
                clear hb
                go_wp2_with fail
                refine (HFC.out _).mono ?_
                rintro e w4 ⟨rfl, hb⟩
                have HO4 := Lib.hid (own_kept HO3.out hb)
                have HB4 := Lib.hid (HB3.out.trans (hb.mono (by have := HB3.out.size; omega)))
                have HW4 := Lib.hid (HB1.out.trans (HB4.out.mono hb1s))
                obtain ⟨y1, y2, y3⟩ := HX.out w4 HW4.out
                clear hb
                go_wp2_with fail
                go_roundw
                case rel =>
                  refine ⟨k + 1, VS, by omega, by go_num, ?_, HO4.out, ?_, HB4.out⟩
                  · rw [HSN.out HSE.out, ← HF.out]
                  · rw [HSN.out HSE.out]; exact HPA.out
                case measure => simp [intOf]; omega
              | false =>
                have HSE : Hid (sep L X k = true) := Lib.hid (by rw [HSEP.out]; simp)
                have HSUB : Hid (TL w (.slice (some ⟨g, o + f * 3, none⟩) (k - f) (c0 - f)) (cutL L f k)) := Lib.hid (HTL.out.sub HN.out hfk (Nat.le_of_lt hlt))
                have es1 : (k : Int) - (f : Int) = ((k - f : Nat) : Int) := by omega
                have hkc : k ≤ c0 := by omega
                go_wp2_with fail
                refine (HFS.out _).mono ?_
                rintro e w2 ⟨rfl, hb⟩
                have HO2 := Lib.hid (own_kept HO.out hb)
                have HB2 := Lib.hid (HB.out.trans (hb.mono (by have := HB.out.size; omega)))
                have HW2 := Lib.hid (HB1.out.trans (HB2.out.mono hb1s))
                obtain ⟨y1, y2, y3⟩ := HX.out w2 HW2.out
                clear hb
                go_wp2_with fail
                refine (HFO.out _).mono ?_
                rintro e w3 ⟨rfl, hb⟩
                have HO3 := Lib.hid (own_kept HO2.out hb)
                have HB3 := Lib.hid (HB2.out.trans (hb.mono (by have := HB2.out.size; omega)))
                have HW3 := Lib.hid (HB1.out.trans (HB3.out.mono hb1s))
                obtain ⟨y1, y2, y3⟩ := HX.out w3 HW3.out
                clear hb
                go_wp2_with fail
                refine (HFC.out _).mono ?_
                rintro e w4 ⟨rfl, hb⟩
                have HO4 := Lib.hid (own_kept HO3.out hb)
                have HB4 := Lib.hid (HB3.out.trans (hb.mono (by have := HB3.out.size; omega)))
                have HW4 := Lib.hid (HB1.out.trans (HB4.out.mono hb1s))
                obtain ⟨y1, y2, y3⟩ := HX.out w4 HW4.out
                clear hb
                have H1 : Hid (∀ (j : Nat) (u : Value), [Value.slice (some ⟨g, o + f * 3, none⟩) (k - f) (c0 - f)][j]? = some u → (w4.alloc (.cells #[.slice (some ⟨g, o + f * 3, none⟩) (k - f) (c0 - f)] 22)).cell? ((⟨w4.heap.size, 0, none⟩ : Addr).add j) = some u) :=
                  Lib.hid (World.news_of_block (World.alloc_heap_new w4 (.cells #[.slice (some ⟨g, o + f * 3, none⟩) (k - f) (c0 - f)] 22)))
                have H2 : Hid (∀ u ∈ [Value.slice (some ⟨g, o + f * 3, none⟩) (k - f) (c0 - f)], u.oneCell' = true) := Lib.hid (by intro u hu; simp at hu; subst hu; rfl)
                have H3 : Hid (VS.length + 1 ≤ maxLen ∧ (VS.length + 1) * 24 ≤ 140737488355328) := Lib.hid ⟨by unfold maxLen; omega, by omega⟩
                have H5 : Hid (w1.heap.size ≤ (w4.alloc (.cells #[.slice (some ⟨g, o + f * 3, none⟩) (k - f) (c0 - f)] 22)).heap.size) := Lib.hid (by have := HB4.out.size; rw [World.size_alloc]; omega)
                go_wp2_with (at_builtin; refine wpList_append_lies _ rfl (.tmp 54) (.tmp 59) 34 rfl w1.heap.size 22 i0 (.slice none 0 0) 1 24 Tryd.underlying34 hi hz0 hz1 hz2 rfl (by decide) u8 VS.length VS rfl (HO4.out.alloc _) ⟨w4.heap.size, 0, none⟩ 1 1 [.slice (some ⟨g, o + f * 3, none⟩) (k - f) (c0 - f)] rfl rfl H1.out H2.out (by decide) H3.out.1 H3.out.2 H5.out _ rfl ?_; intro g2 cap2 w5 hown2 hgrow2 hat2 hlt2; have HO5 := Lib.hid hown2; have HB5 := Lib.hid ((HB4.out.alloc HB4.out.size _).grown hgrow2 H5.out (fun j ej => (HO4.out.lt j ej).1)); clear hown2 hgrow2 hat2 hlt2)
                go_roundw
                case rel =>
                  refine ⟨k + 1, VS ++ [.slice (some ⟨g, o + f * 3, none⟩) (k - f) (c0 - f)], by omega, by go_num, ?_, ?_, ?_, HB5.out⟩
                  · rw [HSY.out HSE.out]; go_num
                  · rw [List.length_append, List.length_singleton]; exact HO5.out
                  · rw [HSY.out HSE.out]; exact HPA.out.snoc HSUB.out rfl
                case measure => simp [intOf]; omega
        · have HSE : Hid (sep L X k = false) := Lib.hid (by rw [HSEP.out]; simp [hd0])
          have hd1 : ((dk : Int) == 0) = false := by simp; exact hd0
          clear hd0
          go_wp2_with fail
          go_roundw
          case rel =>
            refine ⟨k + 1, VS, by omega, by go_num, ?_, HO.out, ?_, HB.out⟩
            · rw [HSN.out HSE.out, ← HF.out]
            · rw [HSN.out HSE.out]; exact HPA.out
          case measure => simp [intOf]; omega
      · obtain rfl : k = n := by omega
        have HTS : Hid (∀ x : Value, TL w x (cutL L f k) → x.oneCell' = true → PartsAt w (VS ++ [x]) D) := Lib.hid (fun x hx h1 => by
          rw [HA.out, ← HF.out]
          exact HPA.out.snoc hx h1)
        have FIN : Hid (∀ (W' : World) (v' x : Value), W'.ownsRow w1.heap.size 22 1 v' (VS.length + 1) (VS ++ [x]) → TL w x (cutL L f k) → x.oneCell' = true → Below w1.heap.size w1 W' → ∃ VS', W'.ownsRow w.heap.size 22 1 v' VS'.length VS' ∧ PartsAt W' VS' D ∧ Below w.heap.size w W') := Lib.hid (fun W' v' x ho hx h1 hb => by
          have hbw := HB1.out.trans (hb.mono hb1s)
          refine ⟨VS ++ [x], ?_, (HTS.out x hx h1).below hbw, hbw⟩
          rw [List.length_append, List.length_singleton]
          exact own_mono ho hb1s)
        have H3 : Hid (VS.length + 1 ≤ maxLen ∧ (VS.length + 1) * 24 ≤ 140737488355328) := Lib.hid ⟨by unfold maxLen; omega, by omega⟩
        by_cases hn0 : k = 0
        · subst hn0
          obtain rfl : f = 0 := by omega
          have hcut : cutL L 0 0 = [] := by simp [cutL]
          rw [hcut] at FIN
          clear hcut
          cases a0 with
          | none =>
            have HSZ : Hid (TL w (.slice none 0 c0) []) := Lib.hid ⟨⟨_, _, rfl, Nat.zero_le _, by unfold maxLen; omega⟩, fun h => by simp at h⟩
            have H1 : Hid (∀ (j : Nat) (u : Value), [Value.slice none 0 c0][j]? = some u → (wr.alloc (.cells #[.slice none 0 c0] 22)).cell? ((⟨wr.heap.size, 0, none⟩ : Addr).add j) = some u) :=
              Lib.hid (World.news_of_block (World.alloc_heap_new wr (.cells #[.slice none 0 c0] 22)))
            have H2 : Hid (∀ u ∈ [Value.slice none 0 c0], u.oneCell' = true) := Lib.hid (by intro u hu; simp at hu; subst hu; rfl)
            have H5 : Hid (w1.heap.size ≤ (wr.alloc (.cells #[.slice none 0 c0] 22)).heap.size) := Lib.hid (by rw [World.size_alloc]; omega)
            go_wp2_with (at_builtin; refine wpList_append_lies _ rfl (.tmp 63) (.tmp 67) 34 rfl w1.heap.size 22 i0 (.slice none 0 0) 1 24 Tryd.underlying34 hi hz0 hz1 hz2 rfl (by decide) u8 VS.length VS rfl (HO.out.alloc _) ⟨wr.heap.size, 0, none⟩ 1 1 [.slice none 0 c0] rfl rfl H1.out H2.out (by decide) H3.out.1 H3.out.2 H5.out _ rfl ?_; intro g2 cap2 w5 hown2 hgrow2 hat2 hlt2; have HO5 := Lib.hid hown2; have HB5 := Lib.hid ((HB.out.alloc hbs _).grown hgrow2 H5.out (fun j ej => (HO.out.lt j ej).1)); clear hown2 hgrow2 hat2 hlt2)
            obtain ⟨VS', q1, q2, q3⟩ := FIN.out w5 _ _ HO5.out HSZ.out rfl HB5.out
            refine bodyPost_ret (v := .tuple #[.slice (some ⟨g2, 0, none⟩) (VS.length + 1) cap2, .int .i64 0]) (by simp [results, Tryd.f20, go_sem]) rfl ⟨_, VS', rfl, q1, q2, q3⟩
          | some ad =>
            by_cases hcf : c0 = 0
            · subst hcf
              have HSZ : Hid (TL w (.slice (some ad) 0 0) []) := Lib.hid ⟨⟨_, _, rfl, Nat.zero_le _, by unfold maxLen; omega⟩, fun h => by simp at h⟩
              have H1 : Hid (∀ (j : Nat) (u : Value), [Value.slice (some ad) 0 0][j]? = some u → (wr.alloc (.cells #[.slice (some ad) 0 0] 22)).cell? ((⟨wr.heap.size, 0, none⟩ : Addr).add j) = some u) :=
                Lib.hid (World.news_of_block (World.alloc_heap_new wr (.cells #[.slice (some ad) 0 0] 22)))
              have H2 : Hid (∀ u ∈ [Value.slice (some ad) 0 0], u.oneCell' = true) := Lib.hid (by intro u hu; simp at hu; subst hu; rfl)
              have H5 : Hid (w1.heap.size ≤ (wr.alloc (.cells #[.slice (some ad) 0 0] 22)).heap.size) := Lib.hid (by rw [World.size_alloc]; omega)
              go_wp2_with (at_builtin; refine wpList_append_lies _ rfl (.tmp 63) (.tmp 67) 34 rfl w1.heap.size 22 i0 (.slice none 0 0) 1 24 Tryd.underlying34 hi hz0 hz1 hz2 rfl (by decide) u8 VS.length VS rfl (HO.out.alloc _) ⟨wr.heap.size, 0, none⟩ 1 1 [.slice (some ad) 0 0] rfl rfl H1.out H2.out (by decide) H3.out.1 H3.out.2 H5.out _ rfl ?_; intro g2 cap2 w5 hown2 hgrow2 hat2 hlt2; have HO5 := Lib.hid hown2; have HB5 := Lib.hid ((HB.out.alloc hbs _).grown hgrow2 H5.out (fun j ej => (HO.out.lt j ej).1)); clear hown2 hgrow2 hat2 hlt2)
              obtain ⟨VS', q1, q2, q3⟩ := FIN.out w5 _ _ HO5.out HSZ.out rfl HB5.out
              refine bodyPost_ret (v := .tuple #[.slice (some ⟨g2, 0, none⟩) (VS.length + 1) cap2, .int .i64 0]) (by simp [results, Tryd.f20, go_sem]) rfl ⟨_, VS', rfl, q1, q2, q3⟩
            · have HSZ : Hid (TL w (.slice (some (ad.add 0)) 0 c0) []) := Lib.hid ⟨⟨_, _, rfl, Nat.zero_le _, by unfold maxLen; omega⟩, fun h => by simp at h⟩
              have H1 : Hid (∀ (j : Nat) (u : Value), [Value.slice (some (ad.add 0)) 0 c0][j]? = some u → (wr.alloc (.cells #[.slice (some (ad.add 0)) 0 c0] 22)).cell? ((⟨wr.heap.size, 0, none⟩ : Addr).add j) = some u) :=
                Lib.hid (World.news_of_block (World.alloc_heap_new wr (.cells #[.slice (some (ad.add 0)) 0 c0] 22)))
              have H2 : Hid (∀ u ∈ [Value.slice (some (ad.add 0)) 0 c0], u.oneCell' = true) := Lib.hid (by intro u hu; simp at hu; subst hu; rfl)
              have H5 : Hid (w1.heap.size ≤ (wr.alloc (.cells #[.slice (some (ad.add 0)) 0 c0] 22)).heap.size) := Lib.hid (by rw [World.size_alloc]; omega)
              go_wp2_with (at_builtin; refine wpList_append_lies _ rfl (.tmp 63) (.tmp 67) 34 rfl w1.heap.size 22 i0 (.slice none 0 0) 1 24 Tryd.underlying34 hi hz0 hz1 hz2 rfl (by decide) u8 VS.length VS rfl (HO.out.alloc _) ⟨wr.heap.size, 0, none⟩ 1 1 [.slice (some (ad.add 0)) 0 c0] rfl rfl H1.out H2.out (by decide) H3.out.1 H3.out.2 H5.out _ rfl ?_; intro g2 cap2 w5 hown2 hgrow2 hat2 hlt2; have HO5 := Lib.hid hown2; have HB5 := Lib.hid ((HB.out.alloc hbs _).grown hgrow2 H5.out (fun j ej => (HO.out.lt j ej).1)); clear hown2 hgrow2 hat2 hlt2)
              obtain ⟨VS', q1, q2, q3⟩ := FIN.out w5 _ _ HO5.out HSZ.out rfl HB5.out
              refine bodyPost_ret (v := .tuple #[.slice (some ⟨g2, 0, none⟩) (VS.length + 1) cap2, .int .i64 0]) (by simp [results, Tryd.f20, go_sem]) rfl ⟨_, VS', rfl, q1, q2, q3⟩
        · obtain ⟨g, o, c1, hv, hg, hcs⟩ := HCL.out (by omega)
          obtain rfl : a0 = some ⟨g, o, none⟩ := by injection hv
          clear hv hg hcs
          by_cases hcf : c0 = f
          · obtain rfl : f = k := by omega
            subst hcf
            have hcut : cutL L c0 c0 = [] := by simp [cutL]
            rw [hcut] at FIN
            clear hcut
            have HSZ : Hid (TL w (.slice (some ⟨g, o, none⟩) 0 0) []) := Lib.hid ⟨⟨_, _, rfl, Nat.zero_le _, by unfold maxLen; omega⟩, fun h => by simp at h⟩
            have H1 : Hid (∀ (j : Nat) (u : Value), [Value.slice (some ⟨g, o, none⟩) 0 0][j]? = some u → (wr.alloc (.cells #[.slice (some ⟨g, o, none⟩) 0 0] 22)).cell? ((⟨wr.heap.size, 0, none⟩ : Addr).add j) = some u) :=
              Lib.hid (World.news_of_block (World.alloc_heap_new wr (.cells #[.slice (some ⟨g, o, none⟩) 0 0] 22)))
            have H2 : Hid (∀ u ∈ [Value.slice (some ⟨g, o, none⟩) 0 0], u.oneCell' = true) := Lib.hid (by intro u hu; simp at hu; subst hu; rfl)
            have H5 : Hid (w1.heap.size ≤ (wr.alloc (.cells #[.slice (some ⟨g, o, none⟩) 0 0] 22)).heap.size) := Lib.hid (by rw [World.size_alloc]; omega)
            go_wp2_with (at_builtin; refine wpList_append_lies _ rfl (.tmp 63) (.tmp 67) 34 rfl w1.heap.size 22 i0 (.slice none 0 0) 1 24 Tryd.underlying34 hi hz0 hz1 hz2 rfl (by decide) u8 VS.length VS rfl (HO.out.alloc _) ⟨wr.heap.size, 0, none⟩ 1 1 [.slice (some ⟨g, o, none⟩) 0 0] rfl rfl H1.out H2.out (by decide) H3.out.1 H3.out.2 H5.out _ rfl ?_; intro g2 cap2 w5 hown2 hgrow2 hat2 hlt2; have HO5 := Lib.hid hown2; have HB5 := Lib.hid ((HB.out.alloc hbs _).grown hgrow2 H5.out (fun j ej => (HO.out.lt j ej).1)); clear hown2 hgrow2 hat2 hlt2)
            obtain ⟨VS', q1, q2, q3⟩ := FIN.out w5 _ _ HO5.out HSZ.out rfl HB5.out
            refine bodyPost_ret (v := .tuple #[.slice (some ⟨g2, 0, none⟩) (VS.length + 1) cap2, .int .i64 0]) (by simp [results, Tryd.f20, go_sem]) rfl ⟨_, VS', rfl, q1, q2, q3⟩
          · have HSUB : Hid (TL w (.slice (some ⟨g, o + f * 3, none⟩) (k - f) (c0 - f)) (cutL L f k)) := Lib.hid (HTL.out.sub HN.out hfk (Nat.le_refl _))
            have es1 : (k : Int) - (f : Int) = ((k - f : Nat) : Int) := by omega
            have H1 : Hid (∀ (j : Nat) (u : Value), [Value.slice (some ⟨g, o + f * 3, none⟩) (k - f) (c0 - f)][j]? = some u → (wr.alloc (.cells #[.slice (some ⟨g, o + f * 3, none⟩) (k - f) (c0 - f)] 22)).cell? ((⟨wr.heap.size, 0, none⟩ : Addr).add j) = some u) :=
              Lib.hid (World.news_of_block (World.alloc_heap_new wr (.cells #[.slice (some ⟨g, o + f * 3, none⟩) (k - f) (c0 - f)] 22)))
            have H2 : Hid (∀ u ∈ [Value.slice (some ⟨g, o + f * 3, none⟩) (k - f) (c0 - f)], u.oneCell' = true) := Lib.hid (by intro u hu; simp at hu; subst hu; rfl)
            have H5 : Hid (w1.heap.size ≤ (wr.alloc (.cells #[.slice (some ⟨g, o + f * 3, none⟩) (k - f) (c0 - f)] 22)).heap.size) := Lib.hid (by rw [World.size_alloc]; omega)
            go_wp2_with (at_builtin; refine wpList_append_lies _ rfl (.tmp 63) (.tmp 67) 34 rfl w1.heap.size 22 i0 (.slice none 0 0) 1 24 Tryd.underlying34 hi hz0 hz1 hz2 rfl (by decide) u8 VS.length VS rfl (HO.out.alloc _) ⟨wr.heap.size, 0, none⟩ 1 1 [.slice (some ⟨g, o + f * 3, none⟩) (k - f) (c0 - f)] rfl rfl H1.out H2.out (by decide) H3.out.1 H3.out.2 H5.out _ rfl ?_; intro g2 cap2 w5 hown2 hgrow2 hat2 hlt2; have HO5 := Lib.hid hown2; have HB5 := Lib.hid ((HB.out.alloc hbs _).grown hgrow2 H5.out (fun j ej => (HO.out.lt j ej).1)); clear hown2 hgrow2 hat2 hlt2)
            obtain ⟨VS', q1, q2, q3⟩ := FIN.out w5 _ _ HO5.out HSUB.out rfl HB5.out
            refine bodyPost_ret (v := .tuple #[.slice (some ⟨g2, 0, none⟩) (VS.length + 1) cap2, .int .i64 0]) (by simp [results, Tryd.f20, go_sem]) rfl ⟨_, VS', rfl, q1, q2, q3⟩
  · obtain ⟨hA, _⟩ := errA_no (HE.out ▸ h0)
    have HA : Hid (D = []) := Lib.hid (by rw [HD.out]; unfold splitA; rw [if_neg (HE.out ▸ h0)])
    have hne : ((E : Int) == 0) = false := by simp; omega
    clear hA h0 hv1 hb1
    go_wp2_with fail
    refine bodyPost_ret (v := .tuple #[.slice none 0 0, .int .i64 (E : Int)]) (by simp [results, Tryd.f20, go_sem]) rfl ⟨_, [], rfl, World.ownsRow_nil _ _ _ _, by rw [HA.out]; exact PartsAt.nil _, HB1.out⟩
end Go.Proofs.YthbiflmmlcmncaaDoor.Ti
