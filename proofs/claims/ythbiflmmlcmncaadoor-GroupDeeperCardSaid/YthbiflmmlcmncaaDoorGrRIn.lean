/- The plain Inside. -/
import Derived.Test.YthbiflmmlcmncaaDoorGrRSplit
namespace Go.Proofs.YthbiflmmlcmncaaDoor.Ti
open Go Go.RowKit Go.Shelf
attribute [local go_sem] Oper.semAt_some

/-- What is known of a partner. -/
theorem prt_facts {L : List Tk} (h0 : errA L = 0) {k : Nat} (hk : k < L.length) : (matchA L).1[k]? = some (prt L k) ∧ (prt L k = -1 ∨ ∃ b : Nat, prt L k = (b : Int) ∧ b < L.length ∧ b ≠ k) := by
  obtain ⟨ps, hps, _, hm⟩ := errA_ok h0
  have h1 : (matchA L).1[k]? = some (part ps k) := by rw [hm, parts_at ps hk]
  have h2 : prt L k = part ps k := by unfold prt; rw [h1]; rfl
  refine ⟨by rw [h2]; exact h1, ?_⟩
  rw [h2]
  by_cases hn : part ps k = -1
  · exact .inl hn
  · right
    obtain ⟨a, b, hm2, hx⟩ := part_mem hn
    have hp := (inv_at L L.length _ (Nat.le_refl _) hps).pair a b hm2
    rcases hx with ⟨e, e2⟩ | ⟨e, e2⟩
    · exact ⟨b, e2, hp.2.1, by omega⟩
    · exact ⟨a, e2, by omega, by omega⟩

set_option maxRecDepth 100000 in
set_option maxHeartbeats 8000000 in
theorem rinside_c (w : World) (v : Value) (L : List Tk) (z : Int) (h : TL w v L) (hl : L.length ≤ 1000) (hz : -9223372036854775808 ≤ z ∧ z ≤ 9223372036854775807) :
    Calls Tryd.prog 22 #[v, .int .i64 z] w fun e W' => ∃ v', e = .returned (.tuple #[v', .int .i64 (((insideA L z).2 : Nat) : Int)]) ∧ TL W' v' (insideA L z).1 ∧ Below w.heap.size w W' := by
  have hmc := rmatch_c w v L h hl
  have HTL := Lib.hid h
  obtain ⟨a0, c0, rfl, hc1, hc2⟩ := h.form
  unfold maxLen at hc2
  have HCL := Lib.hid h.cells
  obtain ⟨n, hn⟩ : ∃ n, n = L.length := ⟨_, rfl⟩
  rw [← hn] at hc1 HCL HTL hl hmc ⊢
  have HN := Lib.hid hn
  change Calls _ _ _ _ fun e W' => ∃ v', e = .returned (.tuple #[v', .int .i64 ((errA L : Nat) : Int)]) ∧ _ at hmc
  obtain ⟨E, hE⟩ : ∃ E, E = errA L := ⟨_, rfl⟩
  rw [← hE] at hmc
  obtain ⟨R, hR⟩ : ∃ R, R = insideA L z := ⟨_, rfl⟩
  rw [← hR]
  have HR := Lib.hid hR
  have HE := Lib.hid hE
  have HMC := Lib.hid hmc
  clear h hn hE hmc hR
  go_enter Tryd.func22, Tryd.ntmps22
  go_wp2_with fail
  refine HMC.out.mono ?_
  rintro e w1 ⟨v1, rfl, hv1, hb1⟩
  have HB1 := Lib.hid hb1
  have hb1s := hb1.size
  by_cases h0 : E = 0
  · have he0 : errA L = 0 := HE.out ▸ h0
    have HNO : Hid (¬ (0 ≤ z ∧ z < (n : Int) ∧ z < prt L z.toNat) → R = ([], 60)) := Lib.hid (fun hno => by rw [HR.out]; unfold insideA; rw [if_pos he0, if_neg (by rw [← HN.out]; exact hno)])
    have HYES : Hid ((0 ≤ z ∧ z < (n : Int) ∧ z < prt L z.toNat) → R = (cutL L (z.toNat + 1) (prt L z.toNat).toNat, 0)) := Lib.hid (fun hy => by rw [HR.out]; unfold insideA; rw [if_pos he0, if_pos (by rw [← HN.out]; exact hy)])
    have HPF : Hid (∀ k, k < n → (matchA L).1[k]? = some (prt L k) ∧ (prt L k = -1 ∨ ∃ b : Nat, prt L k = (b : Int) ∧ b < n ∧ b ≠ k)) := Lib.hid (fun k hk => by rw [HN.out]; exact prt_facts he0 (by rw [← HN.out]; exact hk))
    have HLN : Hid ((matchA L).1.length = n) := Lib.hid (by
      obtain ⟨ps, _, _, hm⟩ := errA_ok he0
      rw [hm, parts_len, HN.out])
    subst h0
    clear he0 hb1
    by_cases hneg : z < 0
    · have HRR : Hid (R = ([], 60)) := Lib.hid (HNO.out (by omega))
      clear hv1
      go_wp2_with fail
      refine bodyPost_ret (v := .tuple #[.slice none 0 0, .int .i64 60]) (by simp [results, Tryd.f22, go_sem]) rfl ⟨_, by rw [HRR.out]; rfl, by rw [HRR.out]; exact TL.nil _, HB1.out⟩
    · by_cases hge : (n : Int) ≤ z
      · have HRR : Hid (R = ([], 60)) := Lib.hid (HNO.out (by omega))
        clear hv1
        go_wp2_with fail
        refine bodyPost_ret (v := .tuple #[.slice none 0 0, .int .i64 60]) (by simp [results, Tryd.f22, go_sem]) rfl ⟨_, by rw [HRR.out]; rfl, by rw [HRR.out]; exact TL.nil _, HB1.out⟩
      · obtain ⟨k, rfl⟩ : ∃ k : Nat, z = (k : Int) := ⟨z.toNat, by omega⟩
        have hlt : k < n := by omega
        have hk2 : ((k : Nat) : Int).toNat = k := rfl
        rw [hk2] at HNO HYES
        obtain ⟨hp1, hp2⟩ := HPF.out k hlt
        obtain ⟨gd, cd, rfl, hgd1, hgd2⟩ := hv1.form (by rw [HLN.out]; omega)
        have hdc : w1.cell? ⟨gd, k, none⟩ = some (.int .i64 (prt L k)) := by
          rw [hv1.cellAt k (by rw [HLN.out]; omega)]
          exact nums_at hp1
        rw [HLN.out]
        obtain ⟨p, hpp⟩ : ∃ p, p = prt L k := ⟨_, rfl⟩
        rw [← hpp] at hdc hp2 HNO HYES
        clear hneg hge hk2 hp1 hpp hv1 hz
        rcases hp2 with rfl | ⟨b, rfl, hb1, hb2⟩
        · have HRR : Hid (R = ([], 60)) := Lib.hid (HNO.out (by omega))
          have t1 : ((-1 : Int) < (k : Int)) := by omega
          go_wp2_with fail
          refine bodyPost_ret (v := .tuple #[.slice none 0 0, .int .i64 60]) (by simp [results, Tryd.f22, go_sem]) rfl ⟨_, by rw [HRR.out]; rfl, by rw [HRR.out]; exact TL.nil _, HB1.out⟩
        · by_cases hbk : b < k
          · have HRR : Hid (R = ([], 60)) := Lib.hid (HNO.out (by omega))
            have t1 : ((b : Int) < (k : Int)) := by omega
            clear hb2
            go_wp2_with fail
            refine bodyPost_ret (v := .tuple #[.slice none 0 0, .int .i64 60]) (by simp [results, Tryd.f22, go_sem]) rfl ⟨_, by rw [HRR.out]; rfl, by rw [HRR.out]; exact TL.nil _, HB1.out⟩
          · have hk1 : k + 1 ≤ b := by omega
            have HRR : Hid (R = (cutL L (k + 1) b, 0)) := Lib.hid (HYES.out ⟨by omega, by omega, by omega⟩)
            obtain ⟨g, o, c1, hv, hg, hcs⟩ := HCL.out (by omega)
            obtain rfl : a0 = some ⟨g, o, none⟩ := by injection hv
            have HSUB : Hid (TL w (.slice (some ⟨g, o + (k + 1) * 3, none⟩) (b - (k + 1)) (c0 - (k + 1))) (cutL L (k + 1) b)) := Lib.hid (HTL.out.sub HN.out hk1 (Nat.le_of_lt hb1))
            have t1 : ¬ ((b : Int) < (k : Int)) := by omega
            obtain ⟨k1, hkk⟩ : ∃ k1 : Nat, k1 = k + 1 := ⟨_, rfl⟩
            have es2 : (k : Int) + 1 = (k1 : Int) := by omega
            rw [← hkk] at HSUB hk1
            have es1 : (b : Int) - (k1 : Int) = ((b - k1 : Nat) : Int) := by omega
            have hcne : ¬ c0 = k1 := by omega
            have hbc : b ≤ c0 := by omega
            rw [← hkk] at HRR
            clear hv hg hcs hbk hb2 hkk
            go_wp2_with fail
            refine bodyPost_ret (v := .tuple #[.slice (some ⟨g, o + k1 * 3, none⟩) (b - k1) (c0 - k1), .int .i64 0]) (by simp [results, Tryd.f22, go_sem]) rfl ⟨_, by rw [HRR.out]; rfl, by rw [HRR.out]; exact HSUB.out.below HB1.out, HB1.out⟩
  · have HRR : Hid (R = ([], E)) := Lib.hid (by rw [HR.out]; unfold insideA; rw [if_neg (HE.out ▸ h0), ← HE.out])
    have hne : ((E : Int) == 0) = false := by simp; omega
    clear h0 hv1 hb1
    go_wp2_with fail
    refine bodyPost_ret (v := .tuple #[.slice none 0 0, .int .i64 (E : Int)]) (by simp [results, Tryd.f22, go_sem]) rfl ⟨_, by rw [HRR.out], by rw [HRR.out]; exact TL.nil _, HB1.out⟩
end Go.Proofs.YthbiflmmlcmncaaDoor.Ti
