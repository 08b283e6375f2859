/- The statement LexPlains, as a call. -/
import Derived.Test.YthnnjogkomhmfaaDoorLiFew
import Derived.Test.YthnnjogkomhmfaaDoorLiPlain
import Derived.Test.YthnnjogkomhmfaaDoorLiSame
import Derived.Test.YthnnjogkomhmfaaDoorLxShown
namespace Go.Proofs.YthnnjogkomhmfaaDoor.Ti
open Go Go.RowKit Go.Shelf
attribute [local go_sem] Oper.semAt_some

set_option maxRecDepth 100000 in
set_option maxHeartbeats 4000000 in
theorem plains_true (w : World) (hG : LG w) (v : Value) (L : List Tk) (h : TL w v L) :
    Calls Tryd.prog 8 #[v] w fun e W' => e = .returned (.bool true) ∧ Below w.heap.size w W' := by
  have hsh := shown_c w hG
  obtain ⟨F, hF⟩ : ∃ F, F = fewL L := ⟨_, rfl⟩
  have hfl : F.length ≤ 60 := by rw [hF]; exact fewL_len L
  have hsm : Small F := fun t ht => by rw [hF] at ht; have := fewL_small L t ht; exact ⟨by omega, by omega⟩
  have hfew : ∀ W, Below w.heap.size w W → Calls Tryd.prog 10 #[v] W fun e W' => ∃ v', e = .returned v' ∧ TL W' v' F ∧ Below W.heap.size W W' := fun W hb =>
    (few_c W v L (h.below hb)).mono fun e W' ⟨v', h1, h2, h3⟩ => ⟨v', h1, by rw [hF]; exact OwnL.tl (by have := fewL_len L; unfold maxLen; omega) h2, h3⟩
  obtain ⟨a9, c9, rfl, _, _⟩ := h.form
  obtain ⟨P, hP⟩ : ∃ P, P = F.filter plainT := ⟨_, rfl⟩
  have hPP : P.filter plainT = P := by rw [hP, List.filter_filter]; simp
  have hPl : P.length ≤ 60 := by rw [hP]; exact Nat.le_trans (List.length_filter_le _ _) hfl
  have hPs : Small P := fun t ht => hsm t (by rw [hP] at ht; exact (List.mem_filter.1 ht).1)
  have hpl : ∀ u W, TL W u F → Calls Tryd.prog 14 #[u] W fun e W' => ∃ v', e = .returned v' ∧ TL W' v' P ∧ Below W.heap.size W W' := fun u W h => by
    rw [hP]; exact plain_c u F W h (by omega) hsm
  have hpp : ∀ u W, TL W u P → Calls Tryd.prog 14 #[u] W fun e W' => ∃ v', e = .returned v' ∧ TL W' v' P ∧ Below W.heap.size W W' := fun u W h => by
    have := plain_c u P W h (by omega) hPs
    rw [hPP] at this
    exact this
  have hsa : ∀ u u' W, TL W u P → TL W u' P → Calls Tryd.prog 16 #[u, u'] W fun e W' => e = .returned (.bool true) ∧ Below W.heap.size W W' := fun u u' W h1 h2 => by
    have := same_c u u' P P W h1 h2
    rw [decide_eq_true rfl] at this
    exact this
  have HSH := Lib.hid hsh
  have HFEW := Lib.hid hfew
  have HPLAIN := Lib.hid hpl
  have HAGAIN := Lib.hid hpp
  have HSAME := Lib.hid hsa
  have HPF := Lib.hid hP
  clear h hsh hfew hpl hpp hsa hP hF hsm hPs hPP hG
  go_enter Tryd.func8, Tryd.ntmps8
  go_wp2_with fail
  refine HSH.out.mono ?_
  rintro e w1 ⟨rfl, hb1⟩
  have B1 := Lib.hid hb1
  clear hb1
  go_wp2_with fail
  refine (HFEW.out _ B1.out).mono ?_
  rintro e w2 ⟨v2, rfl, hv2, hb2⟩
  have V2 := Lib.hid hv2
  have B2 := Lib.hid (B1.out.trans (hb2.mono B1.out.size))
  obtain ⟨a0, c0, rfl, hc1, hc2⟩ := hv2.form
  clear hv2 hb2
  go_wp2_with fail
  refine (HPLAIN.out _ _ V2.out).mono ?_
  rintro e w3 ⟨v3, rfl, hv3, hb3⟩
  have V3 := Lib.hid hv3
  have B3 := Lib.hid (B2.out.trans (hb3.mono B2.out.size))
  have hcells := (V2.out.below hb3).cells
  obtain ⟨a1, c1, rfl, hd1, hd2⟩ := hv3.form
  obtain ⟨n, hn⟩ : ∃ n, n = F.length := ⟨_, rfl⟩
  obtain ⟨m, hm⟩ : ∃ m, m = P.length := ⟨_, rfl⟩
  rw [← hn] at hc1 hcells hfl ⊢
  rw [← hm] at hd1 hPl ⊢
  unfold maxLen at hc2 hd2
  have HC := Lib.hid hcells
  have HN := Lib.hid hn
  have HM := Lib.hid hm
  have HV3 : Hid (TL w3 (.slice a1 m c1) P) := Lib.hid (by rw [hm]; exact V3.out)
  clear hcells hv3 hb3 hn hm V3
  go_wp2
  go_loopw [5, 6] (fun u i wr => ∃ k c : Nat, k ≤ n ∧ i = .int .i64 k ∧ u = .int .i64 c ∧ c + ((F.take k).filter plainT).length = k ∧ wr = w3)
    (fun _ i _ => n - (intOf i).toNat)
  case atStart => exact ⟨0, 0, Nat.zero_le _, rfl, rfl, rfl, rfl⟩
  case round =>
    obtain ⟨k, c, hk, rfl, rfl, hc, hw⟩ := hrel
    obtain rfl := hw
    by_cases hlt : k < n
    · obtain ⟨g, o, c2, hv, hg, hcs⟩ := HC.out (by omega)
      obtain rfl : a0 = some ⟨g, o, none⟩ := by injection hv
      obtain ⟨t, ht⟩ : ∃ t, F[k]? = some t := ⟨_, List.getElem?_eq_getElem (by rw [← HN.out]; exact hlt)⟩
      obtain ⟨e0, _, _⟩ := hcs k t ht
      have hsn := filter_snoc F k t ht
      have hck : c ≤ 60 := by omega
      obtain ⟨kd, hkd⟩ : ∃ kd : Int, kd = t.kind := ⟨_, rfl⟩
      have hpt : plainT t = (kd != 1 && kd != 2) := by rw [hkd]; rfl
      rw [← hkd] at e0
      rw [hpt] at hsn
      clear hcs hv ht hkd hpt
      by_cases h1 : kd = 1
      · subst h1
        have hs2 : ((F.take (k + 1)).filter plainT).length = ((F.take k).filter plainT).length := by rw [hsn]; rfl
        have HS := Lib.hid (show (c + 1) + ((F.take (k + 1)).filter plainT).length = k + 1 by omega)
        clear hsn hs2 hc
        go_wp2
        go_roundw
        case rel => exact ⟨k + 1, c + 1, by omega, by simp, by go_num, HS.out, trivial⟩
        case measure => simp [intOf]; omega
      · by_cases h2 : kd = 2
        · subst h2
          have hs2 : ((F.take (k + 1)).filter plainT).length = ((F.take k).filter plainT).length := by rw [hsn]; rfl
          have HS := Lib.hid (show (c + 1) + ((F.take (k + 1)).filter plainT).length = k + 1 by omega)
          clear hsn hs2 hc h1
          go_wp2
          go_roundw
          case rel => exact ⟨k + 1, c + 1, by omega, by simp, by go_num, HS.out, trivial⟩
          case measure => simp [intOf]; omega
        · have q1 : (kd == 1) = false := by simpa using h1
          have q2 : (kd == 2) = false := by simpa using h2
          have hs2 : ((F.take (k + 1)).filter plainT).length = ((F.take k).filter plainT).length + 1 := by rw [hsn, if_pos (by simp [h1, h2])]; simp
          have HS := Lib.hid (show c + ((F.take (k + 1)).filter plainT).length = k + 1 by omega)
          clear hsn hs2 hc h1 h2
          go_wp2
          go_roundw
          case rel => exact ⟨k + 1, c, by omega, by simp, rfl, HS.out, trivial⟩
          case measure => simp [intOf]; omega
    · obtain rfl : k = n := by omega
      have hsum : m + c = k := by
        rw [List.take_of_length_le (by have := HN.out; omega)] at hc
        have h9 := HM.out
        rw [HPF.out] at h9
        omega
      have hsi : (m : Int) + c = k := by omega
      have HA := Lib.hid (HAGAIN.out _ _ HV3.out)
      clear hc
      go_wp2_with (first
        | (go_at_call 14; refine HA.out.mono ?_; rintro e w5 ⟨v5, rfl, hv5, hb5⟩; have V5 := Lib.hid hv5; have V35 := Lib.hid (HV3.out.below hb5); have B5 := Lib.hid (B3.out.trans (hb5.mono B3.out.size)); clear hv5 hb5)
        | (go_at_call 16; refine (HSAME.out _ _ _ V5.out V35.out).mono ?_; rintro e w6 ⟨rfl, hb6⟩; have B6 := Lib.hid (B5.out.trans (hb6.mono B5.out.size)); clear hb6))
      go_ret
      exact ⟨rfl, B6.out⟩
end Go.Proofs.YthnnjogkomhmfaaDoor.Ti
