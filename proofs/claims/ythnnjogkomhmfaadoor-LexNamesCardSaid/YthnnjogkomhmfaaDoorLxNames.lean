/- The statement LexNames, as a call. -/
import Derived.Test.YthnnjogkomhmfaaDoorLxShown
namespace Go.Proofs.YthnnjogkomhmfaaDoor
open Go Go.RowKit Go.Shelf
attribute [local go_sem] Oper.semAt_some

theorem names_eq (C : List UInt8) : ((firstT C).kind == 5 && (firstT C).text == C) = ((toks st C 0).length == 1 && ((toks st C 0).getD 0 noTk).kind == 5) := by
  by_cases h0 : C = []
  · subst h0
    rw [toks_nil]
    rfl
  have h1 := toks_name st st_ok h0
  have e1 : firstT C = tk1 st C := by unfold firstT; rw [if_neg h0]
  rw [e1, Bool.eq_iff_iff]
  simp only [Bool.and_eq_true, beq_iff_eq]
  rw [h1]
  constructor
  · rintro ⟨x, hx, hk⟩
    rw [hx]
    exact ⟨rfl, hk⟩
  · rintro ⟨h2, h3⟩
    obtain ⟨x, hx⟩ := List.length_eq_one_iff.1 h2
    rw [hx] at h3
    exact ⟨x, hx, h3⟩

set_option maxRecDepth 100000 in
set_option maxHeartbeats 4000000 in
theorem names_true (w : World) (hG : LG w) (x : ByteArray) (hx : x.size ≤ maxLen) :
    Calls Tryd.prog 7 #[.string x] w fun e W' => e = .returned (.bool true) ∧ Below w.heap.size w W' := by
  obtain ⟨C, hC⟩ : ∃ C, C = cutT x.data.toList := ⟨_, rfl⟩
  have hcl : C.length ≤ 10000 := by rw [hC]; have := cutT_len x.data.toList; omega
  have hcut := fun W => cut_c x hx W
  rw [← hC] at hcut
  have hI := fun W h => isName_c C hcl W h
  obtain ⟨q, hq⟩ : ∃ q, q = ((firstT C).kind == 5 && (firstT C).text == C) := ⟨_, rfl⟩
  rw [← hq] at hI
  obtain ⟨s, hs⟩ : ∃ s, s = bs C := ⟨_, rfl⟩
  have hL := fun W h => line_c C hcl W h
  rw [← hs] at hI hL hcut
  have HCUT := Lib.hid hcut
  have HI := Lib.hid hI
  have HL := Lib.hid hL
  have HSH := Lib.hid (fun W h => shown_c W h)
  have HG := Lib.hid hG
  have HQ := Lib.hid hq
  clear hcut hI hL hC hs hG hx hq
  go_enter Tryd.func7, Tryd.ntmps7
  go_wp2_with fail
  refine (HSH.out w HG.out).mono ?_
  rintro e w1 ⟨rfl, hb1⟩
  have G1 := Lib.hid (HG.out.below hb1)
  have B1 := Lib.hid hb1
  clear hb1
  go_wp2_with (go_at_call 17; refine (HCUT.out _).mono ?_; rintro e w2 ⟨rfl, rfl⟩)
  refine (HL.out _ G1.out).mono ?_
  rintro e w3 ⟨v, rfl, hv, hb3⟩
  have hq := HQ.out
  rw [names_eq] at hq
  obtain ⟨L, hLL⟩ : ∃ L, L = toks st C 0 := ⟨_, rfl⟩
  rw [← hLL] at hv hq
  have G3 := Lib.hid (G1.out.below hb3)
  have B3 := Lib.hid (B1.out.trans (hb3.mono B1.out.size))
  obtain ⟨a0, c0, rfl, hc1, hc2⟩ := hv.form
  unfold maxLen at hc2
  by_cases h1 : L.length = 1
  · obtain ⟨t, rfl⟩ := List.length_eq_one_iff.1 h1
    obtain ⟨g, o, c1, hvv, hg, hcs⟩ := hv.cells (by simp)
    obtain rfl : a0 = some ⟨g, o, none⟩ := by injection hvv
    obtain ⟨kd, hkd⟩ : ∃ kd : Int, kd = ((t.kind : Nat) : Int) := ⟨_, rfl⟩
    have x0 := (hcs 0 t rfl).1
    rw [← hkd] at x0
    have hqk : q = (kd == 5) := by rw [hq, hkd, Bool.eq_iff_iff]; simp; omega
    have X0 := Lib.hid x0
    clear hLL hv hq hvv hcs x0 hb3 h1 hkd
    change 1 ≤ c0 at hc1
    by_cases h5 : kd = 5
    · subst h5
      have hq1 : q = true := hqk
      subst hq1
      clear hqk
      go_wp2_with (go_at_call 20; refine (HI.out _ G3.out).mono ?_; rintro e w4 ⟨rfl, hb4⟩; have z0 := (hb4.cell (p := ⟨g, o + 0 * 3, none⟩) hg).trans X0.out; have z1 := z0; simp only [Nat.zero_mul, Nat.add_zero] at z1; have B4 := Lib.hid (B3.out.trans (hb4.mono B3.out.size)); clear hb4)
      go_ret
      exact ⟨rfl, B4.out⟩
    · have hf : (kd == 5) = false := by simpa using h5
      rw [hf] at hqk
      subst hqk
      clear h5
      go_wp2_with (go_at_call 20; refine (HI.out _ G3.out).mono ?_; rintro e w4 ⟨rfl, hb4⟩; have z0 := (hb4.cell (p := ⟨g, o + 0 * 3, none⟩) hg).trans X0.out; have z1 := z0; simp only [Nat.zero_mul, Nat.add_zero] at z1; have B4 := Lib.hid (B3.out.trans (hb4.mono B3.out.size)); clear hb4)
      go_ret
      exact ⟨rfl, B4.out⟩
  · obtain ⟨n, hn⟩ : ∃ n, n = L.length := ⟨_, rfl⟩
    rw [← hn] at h1 hc1 ⊢
    have hf : ((n : Int) == 1) = false := by simp; omega
    have hqf : q = false := by rw [hq, ← hn]; simp [h1]
    subst hqf
    clear hLL hv hq hb3 h1 hn
    go_wp2_with (go_at_call 20; refine (HI.out _ G3.out).mono ?_; rintro e w4 ⟨rfl, hb4⟩; have B4 := Lib.hid (B3.out.trans (hb4.mono B3.out.size)); clear hb4)
    go_ret
    exact ⟨rfl, B4.out⟩
end Go.Proofs.YthnnjogkomhmfaaDoor
