/- The call Inside: its answer, as the plain one has it. -/
import Derived.Test.YthbiflmmlcmncaaDoorGrOwn
import Derived.Test.YthbiflmmlcmncaaDoorGrRIn
namespace Go.Proofs.YthbiflmmlcmncaaDoor.Ti
open Go Go.RowKit Go.Shelf
attribute [local go_sem] Oper.semAt_some

theorem cutL_mem {L : List Tk} {a b : Nat} {t : Tk} (h : t ∈ cutL L a b) : t ∈ L := List.mem_of_mem_take (List.mem_of_mem_drop h)
/-- What Inside tells, by the partners that were found. -/
theorem inside_facts {L : List Tk} {ps : List (Nat × Nat)} (h0 : errA L = 0) (hs : stAt L L.length = some ([], ps)) (z : Int) :
    (¬ (0 ≤ z ∧ z < (L.length : Int)) ∧ insideA L z = ([], 60)) ∨
    (∃ k : Nat, z = (k : Int) ∧ k < L.length ∧ ¬ (k : Int) < part ps k ∧ insideA L z = ([], 60)) ∨
    (∃ k b : Nat, z = (k : Int) ∧ k + 1 ≤ b ∧ b < L.length ∧ part ps k = (b : Int) ∧ insideA L z = (cutL L (k + 1) b, 0)) := by
  obtain ⟨ps', hs', _, hm⟩ := errA_ok h0
  rw [hs] at hs'
  cases hs'
  by_cases hr : 0 ≤ z ∧ z < (L.length : Int)
  · obtain ⟨k, rfl⟩ : ∃ k : Nat, z = (k : Int) := ⟨z.toNat, by omega⟩
    have hk : k < L.length := by omega
    obtain ⟨p1, p2⟩ := prt_facts h0 hk
    have hp : prt L k = part ps k := by
      rw [hm, parts_at ps hk] at p1
      exact (Option.some.inj p1).symm
    have hk2 : ((k : Nat) : Int).toNat = k := rfl
    by_cases hlt : (k : Int) < part ps k
    · rcases p2 with e | ⟨b, e1, e2, e3⟩
      · rw [← hp, e] at hlt; omega
      · refine .inr (.inr ⟨k, b, rfl, by rw [← hp, e1] at hlt; omega, e2, by rw [← hp, e1], ?_⟩)
        unfold insideA
        rw [if_pos h0, if_pos ⟨hr.1, hr.2, by rw [hk2, hp]; exact hlt⟩, hk2, e1]
        rfl
    · refine .inr (.inl ⟨k, rfl, hk, hlt, ?_⟩)
      unfold insideA
      rw [if_pos h0, if_neg (fun e => hlt (by have := e.2.2; rw [hk2, hp] at this; exact this))]
  · refine .inl ⟨hr, ?_⟩
    unfold insideA
    rw [if_pos h0, if_neg (fun e => hr ⟨e.1, e.2.1⟩)]

set_option maxRecDepth 100000 in
set_option maxHeartbeats 4000000 in
/-- Inside(l, at). -/
theorem ginside_c (w : World) (hG : EG w) (v : Value) (L : List Tk) (z : Int) (hT : TL w v L) (hl : L.length ≤ 1000) (hbt : ∀ t ∈ L, t.text.length ≤ 10000 ∧ t.glyph.length ≤ 10000) :
    Calls Tryd.prog 21 #[v, .int .i64 z] w fun e W' => ∃ v', e = .returned (.tuple #[v', .int .i64 (((insideA L z).2 : Nat) : Int)]) ∧ TL W' v' (insideA L z).1 ∧ Below w.heap.size w W' := by
  have HP := Lib.hid (partners_c w v L hT hl)
  have HTL := Lib.hid hT
  have HBT := Lib.hid hbt
  obtain ⟨a0, c0, rfl, hc1, hc2⟩ := hT.form
  have HCL := Lib.hid hT.cells
  unfold maxLen at hc2
  by_cases h0 : errA L = 0
  · have H0 := Lib.hid h0
    obtain ⟨R, hR⟩ : ∃ R, R = insideA L z := ⟨_, rfl⟩
    have HR := Lib.hid hR
    rw [← hR]
    clear h0 hT hbt hR hG
    obtain ⟨n, hn⟩ : ∃ n, n = L.length := ⟨_, rfl⟩
    have HN := Lib.hid hn
    rw [← hn] at hl HP hc1 HTL HCL ⊢
    clear hn
    go_enter Tryd.func21, Tryd.ntmps21
    go_wp2_with fail
    refine HP.out.mono ?_
    rintro e w1 ⟨hb1, ⟨_, g, cap, ps, rfl, hs, ho⟩ | ⟨hne, _⟩⟩
    · have HB1 := Lib.hid hb1
      have ho' : w1.ownsRow w.heap.size 3 1 (.slice (some ⟨g, 0, none⟩) n cap) n (nums (parts n ps)) := by
        have h9 := ho
        change w1.ownsRow _ _ _ _ (parts n ps).length _ at h9
        rw [parts_len] at h9
        exact h9
      have hcell : ∀ k, k < n → w1.cell? ⟨g, k, none⟩ = some (.int .i64 (part ps k)) := fun k hk => by
        rw [ho'.cellAt k (by omega)]
        exact nums_at (parts_at ps hk)
      rcases inside_facts H0.out (ps := ps) (by rw [← HN.out]; exact hs) z with ⟨hr, hi⟩ | ⟨k, rfl, hk, hlt, hi⟩ | ⟨k, b, rfl, hkb, hbl, hpp, hi⟩
      · have HRR : Hid (R = ([], 60)) := Lib.hid (HR.out.trans hi)
        have HOP := Lib.hid (opens_out w1 (some ⟨g, 0, none⟩) n cap z (by rw [HN.out]; exact hr))
        clear hb1 ho ho' hcell hr hi hs
        go_wp2_with fail
        refine HOP.out.mono ?_
        rintro e w2 ⟨rfl, hw⟩
        obtain rfl := hw.symm
        clear hw
        go_wp2_with fail
        refine bodyPost_ret (v := .tuple #[.slice none 0 0, .int .i64 60]) (by simp [results, Tryd.f21, go_sem]) rfl ⟨_, by rw [HRR.out]; rfl, by rw [HRR.out]; exact TL.nil _, HB1.out⟩
      · have HRR : Hid (R = ([], 60)) := Lib.hid (HR.out.trans hi)
        have hop := opens_p w1 g n cap k (part ps k) (by rw [HN.out]; exact hk) (hcell k (by rw [HN.out]; exact hk))
        rw [decide_eq_false hlt] at hop
        have HOP := Lib.hid hop
        clear hb1 ho ho' hcell hlt hi hs hop hk
        go_wp2_with fail
        refine HOP.out.mono ?_
        rintro e w2 ⟨rfl, hw⟩
        obtain rfl := hw.symm
        clear hw
        go_wp2_with fail
        refine bodyPost_ret (v := .tuple #[.slice none 0 0, .int .i64 60]) (by simp [results, Tryd.f21, go_sem]) rfl ⟨_, by rw [HRR.out]; rfl, by rw [HRR.out]; exact TL.nil _, HB1.out⟩
      · have hbn : b < n := by rw [HN.out]; exact hbl
        have HRR : Hid (R = (cutL L (k + 1) b, 0)) := Lib.hid (HR.out.trans hi)
        have hpc := hcell k (by omega)
        have hop := opens_p w1 g n cap k (part ps k) (by omega) hpc
        rw [decide_eq_true (by rw [hpp]; omega)] at hop
        have HOP := Lib.hid hop
        rw [hpp] at hpc
        obtain ⟨q, o, c1, hv, hg, hcs⟩ := HCL.out (by omega)
        obtain rfl : a0 = some ⟨q, o, none⟩ := by injection hv
        have HSUB : Hid (TL w1 (.slice (some ⟨q, o + (k + 1) * 3, none⟩) (b - (k + 1)) (c0 - (k + 1))) (cutL L (k + 1) b)) := Lib.hid ((HTL.out.sub HN.out hkb (Nat.le_of_lt hbn)).below hb1)
        have hcl : (cutL L (k + 1) b).length = b - (k + 1) := cutL_len L hkb (by omega)
        have hown := own_c w1 _ (cutL L (k + 1) b) HSUB.out (by rw [hcl]; omega) (fun t ht => HBT.out t (cutL_mem ht))
        rw [hcl] at hown
        obtain ⟨k1, hkk⟩ : ∃ k1 : Nat, k1 = k + 1 := ⟨_, rfl⟩
        have es2 : (k : Int) + 1 = (k1 : Int) := by omega
        have hkn : (k : Int) < (n : Int) := by omega
        rw [← hkk] at HSUB hkb hown HRR
        have HOWN := Lib.hid hown
        have es1 : (b : Int) - (k1 : Int) = ((b - k1 : Nat) : Int) := by omega
        have hcne : ¬ c0 = k1 := by omega
        have hbc : b ≤ c0 := by omega
        clear hv hg hcs hkk hop hb1 ho ho' hcell hi hs hpp hcl hown hbl
        go_wp2_with fail
        refine HOP.out.mono ?_
        rintro e w2 ⟨rfl, hw⟩
        obtain rfl := hw.symm
        clear hw
        go_wp2_with fail
        refine HOWN.out.mono ?_
        rintro e w3 ⟨rfl, htl, hb3, _⟩
        have HT3 := Lib.hid htl
        have HB3 := Lib.hid (HB1.out.trans (hb3.mono HB1.out.size))
        clear htl hb3
        go_wp2_with fail
        refine bodyPost_ret (v := .tuple #[.slice (some ⟨w1.heap.size, 0, none⟩) (b - k1) (b - k1), .int .i64 0]) (by simp [results, Tryd.f21, go_sem]) rfl ⟨_, by rw [HRR.out]; rfl, by rw [HRR.out]; exact HT3.out, HB3.out⟩
    · exact absurd H0.out hne
  · have H0 := Lib.hid h0
    have HG := Lib.hid hG
    obtain ⟨zz, hz⟩ : ∃ zz : Nat, zz = errA L := ⟨_, rfl⟩
    have hi : insideA L z = ([], zz) := by unfold insideA; rw [if_neg h0, hz]
    rw [hi]
    have HZ := Lib.hid hz
    clear h0 hT hz hG hi hbt
    go_enter Tryd.func21, Tryd.ntmps21
    go_wp2_with fail
    refine HP.out.mono ?_
    rintro e w1 ⟨hb1, ⟨hn, _⟩ | ⟨_, a, rfl⟩⟩
    · exact absurd hn H0.out
    · have HB := Lib.hid hb1
      have HNF := Lib.hid (number_fault (a : Int) (zz : Int) w1 (HG.out.step hb1))
      rw [← HZ.out]
      clear hb1
      go_wp2_with fail
      refine HNF.out.mono ?_
      rintro e w2 ⟨rfl, hb2⟩
      have HB2 := Lib.hid (HB.out.trans (hb2.mono HB.out.size))
      clear hb2
      go_wp2_with fail
      refine bodyPost_ret (v := .tuple #[.slice none 0 0, .int .i64 (zz : Int)]) (by simp [results, Tryd.f21, go_sem]) rfl ⟨_, rfl, TL.nil _, HB2.out⟩
end Go.Proofs.YthbiflmmlcmncaaDoor.Ti
