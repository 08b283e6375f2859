/- The statement GroupPartners, as a call. -/
import Derived.Test.YthbiflmmlcmncaaDoorGrMatches
import Derived.Test.YthbiflmmlcmncaaDoorGrIns
import Derived.Test.YthbiflmmlcmncaaDoorGrRIn
import Derived.BigQuiet
import Derived.Deep.QuietTactic
namespace Go.Proofs.YthbiflmmlcmncaaDoor.Ti
open Go Go.RowKit Go.Shelf
attribute [local go_sem] Oper.semAt_some

/-- Partners are each other's; what is inside of them matches. -/
theorem partner_facts {L : List Tk} (h0 : errA L = 0) {k : Nat} (hk : k < L.length) : prt L k = -1 ∨ ∃ j : Nat, prt L k = (j : Int) ∧ j < L.length ∧ j ≠ k ∧ prt L j = (k : Int) ∧
    ∃ a b : Nat, ((a = k ∧ b = j) ∨ (a = j ∧ b = k)) ∧ a < b ∧ b < L.length ∧ insideA L (a : Int) = (cutL L (a + 1) b, 0) ∧ errA (cutL L (a + 1) b) = 0 := by
  obtain ⟨ps, hs, _, hm⟩ := errA_ok h0
  have hp : ∀ j, j < L.length → prt L j = part ps j := fun j hj => by
    unfold prt
    rw [hm, parts_at ps hj]
    rfl
  have hI := inv_at L L.length _ (Nat.le_refl _) hs
  by_cases h1 : part ps k = -1
  · exact .inl ((hp k hk).trans h1)
  · obtain ⟨a, b, hm2, hab⟩ := part_mem h1
    obtain ⟨i1, i2, i3⟩ := pair_inside h0 hs hm2
    obtain ⟨q1, q2⟩ := hI.partner hm2
    have hin : insideA L (a : Int) = (cutL L (a + 1) b, 0) := by
      unfold insideA
      rw [if_pos h0, Int.toNat_natCast, hp a (by omega), q1, if_pos (by omega), Int.toNat_natCast]
    rcases hab with ⟨rfl, e⟩ | ⟨rfl, e⟩
    · exact .inr ⟨b, (hp _ hk).trans e, i2, by omega, (hp b i2).trans q2, k, b, .inl ⟨rfl, rfl⟩, i1, i2, hin, i3⟩
    · exact .inr ⟨a, (hp _ hk).trans e, by omega, by omega, (hp a (by omega)).trans q1, a, k, .inr ⟨rfl, rfl⟩, i1, i2, hin, i3⟩
theorem matchA_at {L : List Tk} (h0 : errA L = 0) : (matchA L).1.length = L.length ∧ ∀ k, k < L.length → (matchA L).1[k]? = some (prt L k) := by
  obtain ⟨ps, _, _, hm⟩ := errA_ok h0
  refine ⟨by rw [hm, parts_len], fun k hk => ?_⟩
  unfold prt
  rw [hm, parts_at ps hk]
  rfl

set_option maxRecDepth 100000 in
set_option maxHeartbeats 8000000 in
theorem partners_no (w : World) (hG : EG w) (v : Value) (L : List Tk) (h : TL w v L) (h0 : ¬ errA (fewL L) = 0) :
    Calls Tryd.prog 5 #[v] w fun e W' => e = .returned (.bool true) ∧ Below w.heap.size w W' := by
  obtain ⟨F, hF⟩ : ∃ F, F = fewL L := ⟨_, rfl⟩
  have hfl : F.length ≤ 60 := by rw [hF]; exact fewL_len L
  have hfew := few_tl w v L h
  rw [← hF] at hfew h0
  obtain ⟨e1, e2⟩ := errA_no h0
  obtain ⟨z, hz⟩ : ∃ z : Nat, z = errA F := ⟨_, rfl⟩
  rw [← hz] at e2
  have HM : Hid (∀ W u, Below w.heap.size w W → TL W u F → Calls Tryd.prog 12 #[u] W fun e W' => ∃ a0 c0, e = .returned (.tuple #[.slice a0 0 c0, .int .i64 (z : Int)]) ∧ Below W.heap.size W W') := Lib.hid (fun W u hb ht => (gmatch_c W (hG.step hb) u F ht (by omega)).mono fun e W' ⟨v', h1, h2, h3⟩ => by
    rw [e1] at h2
    obtain ⟨a, c, rfl⟩ := own_form h2
    rw [hz]
    exact ⟨a, c, h1, h3⟩)
  have HSH := Lib.hid (shown_c w hG)
  have HFEW := Lib.hid hfew
  obtain ⟨a9, c9, rfl, _, _⟩ := h.form
  clear h hfew hF hG e1 h0 hz
  rcases e2 with rfl | rfl
  all_goals
    go_enter Tryd.func5, Tryd.ntmps5
    go_wp2_with fail
    refine HSH.out.mono ?_
    rintro e w1 ⟨rfl, hb1⟩
    have B1 := Lib.hid hb1
    clear hb1
    go_wp2_with fail
    refine (HFEW.out _ B1.out).mono ?_
    rintro e w2 ⟨v2, rfl, hv2, hb2⟩
    have V2 := Lib.hid hv2
    have B2 := Lib.hid (B1.out.trans (hb2.mono B1.out.size))
    obtain ⟨a0, c0, rfl, hc1, hc2⟩ := hv2.form
    clear hv2 hb2
    go_wp2_with fail
    refine (HM.out _ _ B2.out V2.out).mono ?_
    rintro e w3 ⟨b0, d0, rfl, hb3⟩
    have B3 := Lib.hid (B2.out.trans (hb3.mono B2.out.size))
    clear hb3
    go_wp2_with fail
    go_ret
    exact ⟨rfl, B3.out⟩

set_option maxRecDepth 100000 in
set_option maxHeartbeats 16000000 in
theorem partners_ok (w : World) (hG : EG w) (v : Value) (L : List Tk) (h : TL w v L) (h0 : errA (fewL L) = 0) :
    Calls Tryd.prog 5 #[v] w fun e W' => e = .returned (.bool true) ∧ Below w.heap.size w W' := by
  obtain ⟨F, hF⟩ : ∃ F, F = fewL L := ⟨_, rfl⟩
  have hfl : F.length ≤ 60 := by rw [hF]; exact fewL_len L
  have hfo : ∀ t ∈ F, t.text.length ≤ 10000 ∧ t.glyph.length ≤ 10000 := by rw [hF]; exact fewL_ok L
  have hfew := few_tl w v L h
  rw [← hF] at hfew h0
  obtain ⟨m1, m2⟩ := matchA_at h0
  have hm0 : (((matchA F).2 : Nat) : Int) = 0 := by show ((errA F : Nat) : Int) = 0; rw [h0]; rfl
  obtain ⟨A, hA⟩ : ∃ A, A = (matchA F).1 := ⟨_, rfl⟩
  rw [← hA] at m1 m2
  have HM : Hid (∀ W u, Below w.heap.size w W → TL W u F → Calls Tryd.prog 12 #[u] W fun e W' => ∃ v', e = .returned (.tuple #[v', .int .i64 0]) ∧ IL W' v' A ∧ Below W.heap.size W W') := Lib.hid (fun W u hb ht => (gmatch_c W (hG.step hb) u F ht (by omega)).mono fun e W' ⟨v', h1, h2, h3⟩ => by
    rw [← hA] at h2; rw [hm0] at h1; exact ⟨v', h1, h2.il, h3⟩)
  have HIN : Hid (∀ W u (a b : Nat), Below w.heap.size w W → TL W u F → insideA F (a : Int) = (cutL F (a + 1) b, 0) → Calls Tryd.prog 21 #[u, .int .i64 (a : Int)] W fun e W' => ∃ v', e = .returned (.tuple #[v', .int .i64 0]) ∧ TL W' v' (cutL F (a + 1) b) ∧ Below W.heap.size W W') := Lib.hid (fun W u a b hb ht hi => by
    have := ginside_c W (hG.step hb) u F (a : Int) ht (by omega) hfo
    rw [hi] at this
    exact this)
  have HMI : Hid (∀ W u (a b : Nat), Below w.heap.size w W → a + 1 ≤ b → b ≤ F.length → errA (cutL F (a + 1) b) = 0 → TL W u (cutL F (a + 1) b) → Calls Tryd.prog 12 #[u] W fun e W' => ∃ v', e = .returned (.tuple #[v', .int .i64 0]) ∧ Below W.heap.size W W') := Lib.hid (fun W u a b hb h1 h2 h3 ht => by
    have := gmatch_c W (hG.step hb) u (cutL F (a + 1) b) ht (by rw [cutL_len F h1 h2]; omega)
    have e0 : (((matchA (cutL F (a + 1) b)).2 : Nat) : Int) = 0 := by show ((errA (cutL F (a + 1) b) : Nat) : Int) = 0; rw [h3]; rfl
    rw [e0] at this
    exact this.mono fun _ _ ⟨v', q1, q2, q3⟩ => ⟨v', q1, q3⟩)
  have HPF := Lib.hid (fun k (hk : k < F.length) => partner_facts h0 hk)
  have HSH := Lib.hid (shown_c w hG)
  have HFEW := Lib.hid hfew
  have HM2 := Lib.hid m2
  obtain ⟨a9, c9, rfl, _, _⟩ := h.form
  clear h hfew hF hG hfo h0 m2 hm0 hA
  go_enter Tryd.func5, Tryd.ntmps5
  go_wp2_with fail
  refine HSH.out.mono ?_
  rintro e w1 ⟨rfl, hb1⟩
  have B1 := Lib.hid hb1
  clear hb1
  go_wp2_with fail
  refine (HFEW.out _ B1.out).mono ?_
  rintro e w2 ⟨v2, rfl, hv2, hb2⟩
  have V2 := Lib.hid hv2
  have B2 := Lib.hid (B1.out.trans (hb2.mono B1.out.size))
  obtain ⟨a0, c0, rfl, hc1, hc2⟩ := hv2.form
  clear hv2 hb2
  go_wp2_with fail
  refine (HM.out _ _ B2.out V2.out).mono ?_
  rintro e w3 ⟨p, rfl, hp, hb3⟩
  have V3 := Lib.hid (V2.out.below hb3)
  have B3 := Lib.hid (B2.out.trans (hb3.mono B2.out.size))
  have P3 := Lib.hid hp
  obtain ⟨p0, d0, rfl, hd1, hd2⟩ := hp.form
  clear hp hb3
  obtain ⟨n, hn⟩ : ∃ n, n = F.length := ⟨_, rfl⟩
  rw [m1] at hd1 P3 ⊢
  rw [← hn] at hc1 hd1 hfl P3 HPF HM2 HMI ⊢
  rw [← hn] at V3
  have HPC : Hid (0 < n → ∃ g c0, Value.slice p0 n d0 = .slice (some ⟨g, 0, none⟩) n c0 ∧ g < w3.heap.size ∧ ∀ j x, A[j]? = some x → w3.cell? ⟨g, j, none⟩ = some (.int .i64 x)) := Lib.hid (fun h9 => by
    have := P3.out.cells (by rw [m1, ← hn]; exact h9)
    rw [m1, ← hn] at this
    exact this)
  unfold maxLen at hc2 hd2
  have HN := Lib.hid hn
  clear hn m1 HM HFEW HSH V2 P3
  go_wp2
  go_loopw [6] (fun i wr => ∃ k : Nat, k ≤ n ∧ i = .int .i64 k ∧ Below w3.heap.size w3 wr) (fun i _ => n - (intOf i).toNat)
  case atStart => exact ⟨0, Nat.zero_le _, rfl, Below.refl _ _⟩
  case round =>
    obtain ⟨k, hk, rfl, hB⟩ := hrel
    have HB := Lib.hid hB
    by_cases hlt : k < n
    · obtain ⟨g, c2, hv, hg, hcs⟩ := HPC.out (by omega)
      obtain rfl : p0 = some ⟨g, 0, none⟩ := by injection hv
      have HCC : Hid (∀ W, Below w3.heap.size w3 W → ∀ j, j < n → W.cell? ⟨g, j, none⟩ = some (.int .i64 (prt F j))) := Lib.hid (fun W hb j hj => (hb.cell (p := ⟨g, j, none⟩) hg).trans (hcs j _ (HM2.out j hj)))
      have e1 := HCC.out wr hB k hlt
      clear hv hg hcs
      rcases HPF.out k hlt with hm | ⟨j, hj1, hj2, hj3, hj4, a, b, hab, hab1, hab2, hin, herr⟩
      · rw [hm] at e1
        clear hB hm
        go_wp2
        go_roundw
        case rel => exact ⟨k + 1, by omega, by go_num, HB.out⟩
        case measure => simp [intOf]; omega
      · have e2 := HCC.out wr hB j hj2
        rw [hj4] at e2
        rw [hj1] at e1
        have HE : Hid (∀ W, Below w3.heap.size w3 W → W.cell? ⟨g, k, none⟩ = some (.int .i64 (j : Int))) := Lib.hid (fun W hb => by rw [← hj1]; exact HCC.out W hb k hlt)
        have s1 : ((j : Int) == -1) = false := by simp
        have s2 : ¬ (j : Int) < 0 := by omega
        have s3 : (j : Int) < (n : Int) := by omega
        have s4 : ((k : Int) != (k : Int)) = false := by simp
        have s5 : ((j : Int) == (k : Int)) = false := by simp; omega
        have HI := Lib.hid (HIN.out wr (.slice a0 n c0) a b (B3.out.trans (hB.mono B3.out.size)) (V3.out.below hB) hin)
        have HR := Lib.hid (fun W u hb ht => HMI.out W u a b hb (by omega) (by omega) herr ht)
        have hln := cutL_len F (a := a + 1) (b := b) (by omega) (by rw [← HN.out]; omega)
        have HLN := Lib.hid hln
        have BW := Lib.hid (B3.out.trans (hB.mono B3.out.size))
        clear hB hin herr hj1 hj4 hln HCC
        rcases hab with ⟨rfl, rfl⟩ | ⟨rfl, rfl⟩
        · have s6 : min (a : Int) (b : Int) = (a : Int) := by omega
          have s7 : max (a : Int) (b : Int) = (b : Int) := by omega
          have s8 : (((b - (a + 1) : Nat) : Int) != (b : Int) - (a : Int) - 1) = false := by simp; omega
          go_wp2_with fail
          refine HI.out.mono ?_
          rintro e w4 ⟨x, rfl, hx, hb4⟩
          have X4 := Lib.hid hx
          have C4 := Lib.hid (HB.out.trans (hb4.mono HB.out.size))
          have W4 := Lib.hid (BW.out.trans (hb4.mono BW.out.size))
          obtain ⟨x0, x1, rfl, _, _⟩ := hx.form
          clear hx hb4
          go_wp2_with fail
          refine (HR.out _ _ W4.out X4.out).mono ?_
          rintro e w5 ⟨m, rfl, hb5⟩
          have C5 := Lib.hid (C4.out.trans (hb5.mono C4.out.size))
          have c5 := HE.out w5 C5.out
          rw [HLN.out]
          clear hb5 e1 e2
          go_wp2_with fail
          go_quiet (fail)
          go_wp2
          go_roundw
          case rel => exact ⟨a + 1, by omega, by go_num, below_drewN C5.out _⟩
          case measure => simp [intOf]; omega
        · have s6 : min (b : Int) (a : Int) = (a : Int) := by omega
          have s7 : max (b : Int) (a : Int) = (b : Int) := by omega
          have s8 : (((b - (a + 1) : Nat) : Int) != (b : Int) - (a : Int) - 1) = false := by simp; omega
          go_wp2_with fail
          refine HI.out.mono ?_
          rintro e w4 ⟨x, rfl, hx, hb4⟩
          have X4 := Lib.hid hx
          have C4 := Lib.hid (HB.out.trans (hb4.mono HB.out.size))
          have W4 := Lib.hid (BW.out.trans (hb4.mono BW.out.size))
          obtain ⟨x0, x1, rfl, _, _⟩ := hx.form
          clear hx hb4
          go_wp2_with fail
          refine (HR.out _ _ W4.out X4.out).mono ?_
          rintro e w5 ⟨m, rfl, hb5⟩
          have C5 := Lib.hid (C4.out.trans (hb5.mono C4.out.size))
          have c5 := HE.out w5 C5.out
          rw [HLN.out]
          clear hb5 e1 e2
          go_wp2_with fail
          go_quiet (fail)
          go_wp2
          go_roundw
          case rel => exact ⟨b + 1, by omega, by go_num, below_drewN C5.out _⟩
          case measure => simp [intOf]; omega
    · obtain rfl : k = n := by omega
      have B4 := Lib.hid (B3.out.trans (hB.mono B3.out.size))
      clear hB
      go_wp2
      go_ret
      exact ⟨rfl, B4.out⟩
theorem partners_true (w : World) (hG : EG w) (v : Value) (L : List Tk) (h : TL w v L) :
    Calls Tryd.prog 5 #[v] w fun e W' => e = .returned (.bool true) ∧ Below w.heap.size w W' := by
  by_cases h0 : errA (fewL L) = 0
  · exact partners_ok w hG v L h h0
  · exact partners_no w hG v L h h0
end Go.Proofs.YthbiflmmlcmncaaDoor.Ti
