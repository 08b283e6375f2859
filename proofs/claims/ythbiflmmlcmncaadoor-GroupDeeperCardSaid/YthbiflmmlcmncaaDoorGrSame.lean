/- The plain Same (by wip/gen/gr_base.py). -/
import Derived.Test.YthbiflmmlcmncaaDoorGrTok
import Derived.BigQuiet
import Derived.Deep.QuietTactic
import Derived.Laws.StructEq
namespace Go.Proofs.YthbiflmmlcmncaaDoor.Ti
open Go Go.RowKit Go.Shelf
attribute [local go_sem] Oper.semAt_some

set_option maxRecDepth 100000 in
set_option maxHeartbeats 4000000 in
/-- The plain Same. -/
theorem rsame_c (v u : Value) (L M : List Tk) (w : World) (hL : TL w v L) (hM : TL w u M) :
    Calls Tryd.prog 24 #[v, u] w fun e W' => e = .returned (.bool (decide (L = M))) ∧ Below w.heap.size w W' := by
  have hmix : Tryd.prog.follows .mixedOrders = true := by kernel_rfl
  obtain ⟨a0, c0, rfl, hc1, hc2⟩ := hL.form
  obtain ⟨b0, d0, rfl, hd1, hd2⟩ := hM.form
  unfold maxLen at hc2 hd2
  have HCL := Lib.hid hL.cells
  have HCM := Lib.hid hM.cells
  obtain ⟨n, hn⟩ : ∃ n, n = L.length := ⟨_, rfl⟩
  obtain ⟨m, hm⟩ : ∃ m, m = M.length := ⟨_, rfl⟩
  rw [← hn] at hc1 HCL ⊢
  rw [← hm] at hd1 HCM ⊢
  have HN := Lib.hid hn
  have HM := Lib.hid hm
  clear hL hM hn hm
  by_cases hnm : n = m
  · subst hnm
    go_enter Tryd.func24, Tryd.ntmps24
    go_wp2
    go_loopw [5] (fun i wr => ∃ k : Nat, k ≤ n ∧ i = .int .i64 k ∧ Below w.heap.size w wr ∧ ∀ j, j < k → L[j]? = M[j]?)
      (fun i _ => n - (intOf i).toNat)
    case atStart => exact ⟨0, Nat.zero_le _, rfl, Below.refl _ _, fun j hj => by omega⟩
    case round =>
      obtain ⟨k, hk, rfl, hb1, hall⟩ := hrel
      have HB1 := Lib.hid hb1
      have HA := Lib.hid hall
      clear hb1 hall
      by_cases hlt : k < n
      · obtain ⟨g, o, c1, hv, hg, hcs⟩ := HCL.out (by omega)
        obtain ⟨g2, o2, c2, hv2, hg2, hcs2⟩ := HCM.out (by omega)
        obtain rfl : a0 = some ⟨g, o, none⟩ := by injection hv
        obtain rfl : b0 = some ⟨g2, o2, none⟩ := by injection hv2
        obtain ⟨t, ht⟩ : ∃ t, L[k]? = some t := ⟨_, List.getElem?_eq_getElem (by rw [← HN.out]; exact hlt)⟩
        obtain ⟨s, hs⟩ : ∃ s, M[k]? = some s := ⟨_, List.getElem?_eq_getElem (by rw [← HM.out]; exact hlt)⟩
        obtain ⟨x0, x1, x2⟩ := hcs k t ht
        obtain ⟨y0, y1, y2⟩ := hcs2 k s hs
        have hb := HB1.out
        have e0 := (hb.cell (p := ⟨g, o + k * 3, none⟩) hg).trans x0
        have e1 := (hb.cell (p := ⟨g, o + k * 3 + 1, none⟩) hg).trans x1
        have e2 := (hb.cell (p := ⟨g, o + k * 3 + 2, none⟩) hg).trans x2
        have f0 := (hb.cell (p := ⟨g2, o2 + k * 3, none⟩) hg2).trans y0
        have f1 := (hb.cell (p := ⟨g2, o2 + k * 3 + 1, none⟩) hg2).trans y1
        have f2 := (hb.cell (p := ⟨g2, o2 + k * 3 + 2, none⟩) hg2).trans y2
        have HTT := Lib.hid ht
        have HSS := Lib.hid hs
        clear hb hcs hcs2 x0 x1 x2 y0 y1 y2 hv hv2 hg hg2 ht hs
        by_cases hts : t = s
        · subst hts
          obtain ⟨kd, hkd⟩ : ∃ kd : Int, kd = t.kind := ⟨_, rfl⟩
          obtain ⟨U, hU⟩ : ∃ U, U = bs t.text := ⟨_, rfl⟩
          obtain ⟨G, hGl⟩ : ∃ G, G = bs t.glyph := ⟨_, rfl⟩
          rw [← hkd] at e0 f0
          rw [← hU] at e1 f1
          rw [← hGl] at e2 f2
          clear hkd hU hGl
          go_wp2_with fail
          go_quiet (fail)
          go_wp2_with fail
          go_roundw
          case rel =>
            refine ⟨k + 1, by omega, by simp, HB1.out.trans ⟨rfl, rfl, rfl, Nat.le_refl _, fun _ _ => rfl⟩, fun j hj => ?_⟩
            rcases Nat.lt_or_ge j k with h1 | h1
            · exact HA.out j h1
            · obtain rfl : j = k := by omega
              rw [HTT.out, HSS.out]
          case measure => simp [intOf]; omega
        · have hd : decide (L = M) = false := by
            simp only [decide_eq_false_iff_not]
            intro e
            have h1 := HTT.out
            rw [e, HSS.out] at h1
            exact hts (by injection h1 with h2; exact h2.symm)
          have HD := Lib.hid hd
          clear hd
          obtain ⟨ka, hka⟩ : ∃ ka : Int, ka = t.kind := ⟨_, rfl⟩
          obtain ⟨Ua, hUa⟩ : ∃ U, U = bs t.text := ⟨_, rfl⟩
          obtain ⟨Ga, hGa⟩ : ∃ G, G = bs t.glyph := ⟨_, rfl⟩
          obtain ⟨kb, hkb⟩ : ∃ ka : Int, ka = s.kind := ⟨_, rfl⟩
          obtain ⟨Ub, hUb⟩ : ∃ U, U = bs s.text := ⟨_, rfl⟩
          obtain ⟨Gb, hGb⟩ : ∃ G, G = bs s.glyph := ⟨_, rfl⟩
          rw [← hka] at e0
          rw [← hUa] at e1
          rw [← hGa] at e2
          rw [← hkb] at f0
          rw [← hUb] at f1
          rw [← hGb] at f2
          have hdn : Below w.heap.size w wr → ∀ q, Below w.heap.size w (wr.drewN q) := fun h q => h.trans ⟨rfl, rfl, rfl, Nat.le_refl _, fun _ _ => rfl⟩
          have HDN := Lib.hid (hdn HB1.out)
          by_cases hk1 : t.kind = s.kind
          · have hkk : kb = ka := by rw [hka, hkb, hk1]
            subst hkk
            by_cases hU1 : t.text = s.text
            · have hUU : Ub = Ua := by rw [hUa, hUb, hU1]
              subst hUU
              have hG1 : (Ga.toList == Gb.toList) = false := by
                rw [hGa, hGb]
                exact bs_ne (fun e => hts (tk_ext hk1 hU1 e))
              clear hk1 hU1 hka hUa hGa hkb hUb hGb hts hdn
              go_wp2_with fail
              go_quiet (fail)
              go_wp2_with fail
              go_ret
              exact ⟨by rw [HD.out]; rfl, HDN.out _⟩
            · have hU2 : (Ua.toList == Ub.toList) = false := by rw [hUa, hUb]; exact bs_ne hU1
              clear hk1 hU1 hka hUa hGa hkb hUb hGb hts hdn
              go_wp2_with fail
              go_quiet (fail)
              go_wp2_with fail
              go_ret
              exact ⟨by rw [HD.out]; rfl, HDN.out _⟩
          · have hk2 : (ka == kb) = false := by rw [hka, hkb]; simp; omega
            clear hk1 hka hUa hGa hkb hUb hGb hts hdn
            go_wp2_with fail
            go_quiet (fail)
            go_wp2_with fail
            go_ret
            exact ⟨by rw [HD.out]; rfl, HDN.out _⟩
      · obtain rfl : k = n := by omega
        have hd : decide (L = M) = true := by
          simp only [decide_eq_true_eq]
          exact sameUpTo (by rw [← HN.out, ← HM.out]) (fun j hj => HA.out j (by rw [HN.out]; exact hj))
        have HD := Lib.hid hd
        clear hd
        go_wp2
        go_ret
        exact ⟨by rw [HD.out]; rfl, HB1.out⟩
  · have hd : decide (L = M) = false := by
      simp only [decide_eq_false_iff_not]
      intro e
      exact hnm (by rw [HN.out, HM.out, e])
    have hne : ((n : Int) != (m : Int)) = true := by simp; omega
    rw [hd]
    clear hd
    go_enter Tryd.func24, Tryd.ntmps24
    go_wp2
    go_ret
    exact ⟨rfl, Below.refl _ _⟩
end Go.Proofs.YthbiflmmlcmncaaDoor.Ti
