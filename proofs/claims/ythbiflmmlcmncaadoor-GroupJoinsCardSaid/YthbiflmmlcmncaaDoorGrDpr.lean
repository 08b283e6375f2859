/- The statement GroupDeeper, as a call. -/
import Derived.Test.YthbiflmmlcmncaaDoorGrPtn
namespace Go.Proofs.YthbiflmmlcmncaaDoor.Ti
open Go Go.RowKit Go.Shelf
attribute [local go_sem] Oper.semAt_some

/-- Partners are as deep, what is between is deeper. -/
theorem deeper_facts {L : List Tk} (h0 : errA L = 0) {k : Nat} (hk : k < L.length) : prt L k = -1 ∨ ∃ j : Nat, prt L k = (j : Int) ∧ j < L.length ∧ depT L j = depT L k ∧ ∀ m, k < m → m < j → depT L k < depT L m := by
  obtain ⟨ps, hs, _, hm⟩ := errA_ok h0
  have hp : ∀ j, j < L.length → prt L j = part ps j := fun j hj => by
    unfold prt
    rw [hm, parts_at ps hj]
    rfl
  by_cases h1 : part ps k = -1
  · exact .inl ((hp k hk).trans h1)
  · obtain ⟨a, b, hm2, hab⟩ := part_mem h1
    obtain ⟨i1, i2, i3⟩ := pair_inside h0 hs hm2
    obtain ⟨q1, q2⟩ := pair_depth hs hm2
    rcases hab with ⟨rfl, e⟩ | ⟨rfl, e⟩
    · exact .inr ⟨b, (hp _ hk).trans e, i2, q1.symm, q2⟩
    · exact .inr ⟨a, (hp _ hk).trans e, by omega, q1, fun m m1 m2 => by omega⟩
theorem deepA_at {L : List Tk} (h0 : errA L = 0) : (deepA L).length = L.length ∧ ∀ k, k < L.length → (deepA L)[k]? = some ((depT L k : Nat) : Int) := by
  unfold deepA
  rw [if_pos h0]
  exact ⟨deps_len _ _, fun k hk => deps_at L hk⟩
theorem depT_le (L : List Tk) {n : Nat} (hl : L.length ≤ n) (k : Nat) (h0 : errA L = 0) : depT L k ≤ n := by
  obtain ⟨ps, hs, _, _⟩ := errA_ok h0
  unfold depT
  split
  · rename_i t ht
    have hk : k < L.length := (List.getElem?_eq_some_iff.1 ht).1
    have hd : ∀ j, j ≤ L.length → dpt L j ≤ L.length := fun j hj => by
      obtain ⟨s, q⟩ := stAt_some (k := j) hs hj
      rw [dpt_some q]
      have := st_len j s hj q
      omega
    have h1 := hd (k + 1) (by omega)
    have h2 := hd k (by omega)
    split <;> omega
  · omega

set_option maxRecDepth 100000 in
set_option maxHeartbeats 8000000 in
theorem deeper_no (w : World) (hG : EG w) (v : Value) (L : List Tk) (h : TL w v L) (h0 : ¬ errA (fewL L) = 0) :
    Calls Tryd.prog 8 #[v] w fun e W' => e = .returned (.bool true) ∧ Below w.heap.size w W' := by
  obtain ⟨F, hF⟩ : ∃ F, F = fewL L := ⟨_, rfl⟩
  have hfl : F.length ≤ 60 := by rw [hF]; exact fewL_len L
  have hfew := few_tl w v L h
  rw [← hF] at hfew h0
  obtain ⟨e1, e2⟩ := errA_no h0
  obtain ⟨z, hz⟩ : ∃ z : Nat, z = errA F := ⟨_, rfl⟩
  rw [← hz] at e2
  have HM : Hid (∀ W u, Below w.heap.size w W → TL W u F → Calls Tryd.prog 12 #[u] W fun e W' => ∃ v', e = .returned (.tuple #[v', .int .i64 (z : Int)]) ∧ Below W.heap.size W W') := Lib.hid (fun W u hb ht => (gmatch_c W (hG.step hb) u F ht (by omega)).mono fun _ _ ⟨v', h1, _, h3⟩ => by
    rw [hz]
    exact ⟨v', h1, h3⟩)
  have HD : Hid (∀ W u, Below w.heap.size w W → TL W u F → Calls Tryd.prog 14 #[u] W fun e W' => ∃ v', e = .returned (.tuple #[v', .int .i64 (z : Int)]) ∧ Below W.heap.size W W') := Lib.hid (fun W u hb ht => (gdeep_c W (hG.step hb) u F ht (by omega)).mono fun _ _ ⟨v', h1, _, h3⟩ => by
    rw [hz]
    exact ⟨v', h1, h3⟩)
  have HSH := Lib.hid (shown_c w hG)
  have HFEW := Lib.hid hfew
  obtain ⟨a9, c9, rfl, _, _⟩ := h.form
  have hne : ((z : Int) != 0) = true := by simp; omega
  have heq : ((z : Int) == (z : Int)) = true := by simp
  clear h hfew hF hG e1 h0 hz e2
  go_enter Tryd.func8, Tryd.ntmps8
  go_wp2_with fail
  refine HSH.out.mono ?_
  rintro e w1 ⟨rfl, hb1⟩
  have B1 := Lib.hid hb1
  clear hb1
  go_wp2_with fail
  refine (HFEW.out _ B1.out).mono ?_
  rintro e w2 ⟨v2, rfl, hv2, hb2⟩
  have V2 := Lib.hid hv2
  have B2 := Lib.hid (B1.out.trans (hb2.mono B1.out.size))
  obtain ⟨a0, c0, rfl, hc1, hc2⟩ := hv2.form
  clear hv2 hb2
  go_wp2_with fail
  refine (HM.out _ _ B2.out V2.out).mono ?_
  rintro e w3 ⟨b0, rfl, hb3⟩
  have V3 := Lib.hid (V2.out.below hb3)
  have B3 := Lib.hid (B2.out.trans (hb3.mono B2.out.size))
  clear hb3
  go_wp2_with fail
  refine (HD.out _ _ B3.out V3.out).mono ?_
  rintro e w4 ⟨d0, rfl, hb4⟩
  have B4 := Lib.hid (B3.out.trans (hb4.mono B3.out.size))
  clear hb4
  go_wp2_with fail
  go_ret
  exact ⟨rfl, B4.out⟩

set_option maxRecDepth 100000 in
set_option maxHeartbeats 16000000 in
theorem deeper_ok (w : World) (hG : EG w) (v : Value) (L : List Tk) (h : TL w v L) (h0 : errA (fewL L) = 0) :
    Calls Tryd.prog 8 #[v] w fun e W' => e = .returned (.bool true) ∧ Below w.heap.size w W' := by
  obtain ⟨F, hF⟩ : ∃ F, F = fewL L := ⟨_, rfl⟩
  have hfl : F.length ≤ 60 := by rw [hF]; exact fewL_len L
  have hfew := few_tl w v L h
  rw [← hF] at hfew h0
  obtain ⟨m1, m2⟩ := matchA_at h0
  obtain ⟨n1, n2⟩ := deepA_at h0
  have hm0 : (((matchA F).2 : Nat) : Int) = 0 := by show ((errA F : Nat) : Int) = 0; rw [h0]; rfl
  have he0 : ((errA F : Nat) : Int) = 0 := hm0
  obtain ⟨A, hA⟩ : ∃ A, A = (matchA F).1 := ⟨_, rfl⟩
  rw [← hA] at m1 m2
  obtain ⟨D, hD⟩ : ∃ D, D = deepA F := ⟨_, rfl⟩
  rw [← hD] at n1 n2
  have HM : Hid (∀ W u, Below w.heap.size w W → TL W u F → Calls Tryd.prog 12 #[u] W fun e W' => ∃ v', e = .returned (.tuple #[v', .int .i64 0]) ∧ IL W' v' A ∧ Below W.heap.size W W') := Lib.hid (fun W u hb ht => (gmatch_c W (hG.step hb) u F ht (by omega)).mono fun e W' ⟨v', h1, h2, h3⟩ => by
    rw [← hA] at h2; rw [hm0] at h1; exact ⟨v', h1, h2.il, h3⟩)
  have HD : Hid (∀ W u, Below w.heap.size w W → TL W u F → Calls Tryd.prog 14 #[u] W fun e W' => ∃ v', e = .returned (.tuple #[v', .int .i64 0]) ∧ IL W' v' D ∧ Below W.heap.size W W') := Lib.hid (fun W u hb ht => (gdeep_c W (hG.step hb) u F ht (by omega)).mono fun e W' ⟨v', h1, h2, h3⟩ => by
    rw [← hD] at h2; rw [he0] at h1; exact ⟨v', h1, h2.il, h3⟩)
  have HPF := Lib.hid (fun k (hk : k < F.length) => deeper_facts h0 hk)
  have HLE := Lib.hid (fun k => depT_le F hfl k h0)
  have HSH := Lib.hid (shown_c w hG)
  have HFEW := Lib.hid hfew
  have HM2 := Lib.hid m2
  have HN2 := Lib.hid n2
  obtain ⟨a9, c9, rfl, _, _⟩ := h.form
  clear h hfew hF hG h0 m2 n2 hm0 he0 hA hD
  go_enter Tryd.func8, Tryd.ntmps8
  go_wp2_with fail
  refine HSH.out.mono ?_
  rintro e w1 ⟨rfl, hb1⟩
  have B1 := Lib.hid hb1
  clear hb1
  go_wp2_with fail
  refine (HFEW.out _ B1.out).mono ?_
  rintro e w2 ⟨v2, rfl, hv2, hb2⟩
  have V2 := Lib.hid hv2
  have B2 := Lib.hid (B1.out.trans (hb2.mono B1.out.size))
  obtain ⟨a0, c0, rfl, hc1, hc2⟩ := hv2.form
  clear hv2 hb2
  go_wp2_with fail
  refine (HM.out _ _ B2.out V2.out).mono ?_
  rintro e w3 ⟨p, rfl, hp, hb3⟩
  have V3 := Lib.hid (V2.out.below hb3)
  have B3 := Lib.hid (B2.out.trans (hb3.mono B2.out.size))
  have P3 := Lib.hid hp
  obtain ⟨p0, d0, rfl, hd1, hd2⟩ := hp.form
  rw [m1] at hd1 ⊢
  clear hp hb3
  go_wp2_with fail
  refine (HD.out _ _ B3.out V3.out).mono ?_
  rintro e w4 ⟨d, rfl, hd, hb4⟩
  have B4 := Lib.hid (B3.out.trans (hb4.mono B3.out.size))
  have P4 := Lib.hid (P3.out.below hb4)
  have D4 := Lib.hid hd
  obtain ⟨r0, f0, rfl, hf1, hf2⟩ := hd.form
  rw [n1] at hf1 ⊢
  clear hd hb4
  obtain ⟨n, hn⟩ : ∃ n, n = F.length := ⟨_, rfl⟩
  rw [m1] at P4
  rw [n1] at D4
  rw [← hn] at hc1 hd1 hf1 hfl P4 D4 HPF HM2 HN2 ⊢
  have HPC : Hid (0 < n → ∃ g c0, Value.slice p0 n d0 = .slice (some ⟨g, 0, none⟩) n c0 ∧ g < w4.heap.size ∧ ∀ j x, A[j]? = some x → w4.cell? ⟨g, j, none⟩ = some (.int .i64 x)) := Lib.hid (fun h9 => by
    have := P4.out.cells (by rw [m1, ← hn]; exact h9)
    rw [m1, ← hn] at this
    exact this)
  have HDC : Hid (0 < n → ∃ g c0, Value.slice r0 n f0 = .slice (some ⟨g, 0, none⟩) n c0 ∧ g < w4.heap.size ∧ ∀ j x, D[j]? = some x → w4.cell? ⟨g, j, none⟩ = some (.int .i64 x)) := Lib.hid (fun h9 => by
    have := D4.out.cells (by rw [n1, ← hn]; exact h9)
    rw [n1, ← hn] at this
    exact this)
  unfold maxLen at hc2 hd2 hf2
  clear hn m1 n1 HM HD HFEW HSH V2 V3 P3 P4 D4 B1 B2 B3
  go_wp2
  go_loopw [8] (fun i wr => ∃ k : Nat, k ≤ n ∧ i = .int .i64 k ∧ Below w4.heap.size w4 wr) (fun i _ => n - (intOf i).toNat)
  case atStart => exact ⟨0, Nat.zero_le _, rfl, Below.refl _ _⟩
  case round =>
    obtain ⟨k, hk, rfl, hB⟩ := hrel
    have HB := Lib.hid hB
    by_cases hlt : k < n
    · obtain ⟨g, c2, hv, hg, hcs⟩ := HPC.out (by omega)
      obtain rfl : p0 = some ⟨g, 0, none⟩ := by injection hv
      obtain ⟨g2, c3, hv2, hg2, hcs2⟩ := HDC.out (by omega)
      obtain rfl : r0 = some ⟨g2, 0, none⟩ := by injection hv2
      have HCC : Hid (∀ W, Below w4.heap.size w4 W → ∀ j, j < n → W.cell? ⟨g, j, none⟩ = some (.int .i64 (prt F j))) := Lib.hid (fun W hb j hj => (hb.cell (p := ⟨g, j, none⟩) hg).trans (hcs j _ (HM2.out j hj)))
      have HDD : Hid (∀ W, Below w4.heap.size w4 W → ∀ j, j < n → W.cell? ⟨g2, j, none⟩ = some (.int .i64 ((depT F j : Nat) : Int))) := Lib.hid (fun W hb j hj => (hb.cell (p := ⟨g2, j, none⟩) hg2).trans (hcs2 j _ (HN2.out j hj)))
      have e1 := HCC.out wr hB k hlt
      have e3 := HDD.out wr hB k hlt
      have hpf := HPF.out k hlt
      obtain ⟨dk, hdk⟩ : ∃ d, d = depT F k := ⟨_, rfl⟩
      rw [← hdk] at e3 hpf
      have hdl : dk ≤ 60 := by rw [hdk]; exact HLE.out k
      have HDK := Lib.hid hdk
      have u1 : ¬ (dk : Int) < 0 := by omega
      have HE1 : Hid (∀ W, Below w4.heap.size w4 W → W.cell? ⟨g2, k, none⟩ = some (.int .i64 (dk : Int))) := Lib.hid (fun W hb => by rw [hdk]; exact HDD.out W hb k hlt)
      clear hv hg hcs hv2 hg2 hcs2 hB hdk
      rcases hpf with hm | ⟨j, hj1, hj2, hj3, hj4⟩
      · rw [hm] at e1
        have HE2 : Hid (∀ W, Below w4.heap.size w4 W → W.cell? ⟨g, k, none⟩ = some (.int .i64 (-1))) := Lib.hid (fun W hb => by rw [← hm]; exact HCC.out W hb k hlt)
        have t1 : ¬ (n : Int) ≤ -1 := by omega
        have t2 : decide ((n : Int) ≤ -1) = false := by simp; omega
        clear hm
        go_wp2
        go_quiet (fail)
        have B5 := Lib.hid (below_drewN HB.out nq)
        clear e1 e3
        go_wp2
        go_loopw [9] (fun i w' => i = .int .i64 ((k : Int) + 1) ∧ Below w4.heap.size w4 w') (fun _ _ => 0)
        case atStart => exact ⟨rfl, B5.out⟩
        case round =>
          obtain ⟨rfl, hB6⟩ := hrel
          have e6 := HE2.out _ hB6
          have HB6 := Lib.hid hB6
          have t3 : ¬ (k : Int) + 1 < -1 := by omega
          clear hB6
          go_wp2
          go_roundw
          case rel => exact ⟨k + 1, by omega, by go_num, HB6.out⟩
          case measure => simp [intOf]; omega
      · have e2 := HDD.out wr HB.out j hj2
        rw [hj3] at e2
        rw [hj1] at e1
        have HE2 : Hid (∀ W, Below w4.heap.size w4 W → W.cell? ⟨g, k, none⟩ = some (.int .i64 (j : Int))) := Lib.hid (fun W hb => by rw [← hj1]; exact HCC.out W hb k hlt)
        have HBT := Lib.hid hj4
        have t1 : decide ((n : Int) ≤ (j : Int)) = false := by simp; omega
        have t1n : decide (n ≤ j) = false := by simp; omega
        have t4 : decide ((0 : Int) ≤ (j : Int)) = true := by simp
        have t5 : ((dk : Int) != (dk : Int)) = false := by simp
        have t6 : decide ((dk : Int) < 0) = false := by simp
        have t7 : (j : Int) < (n : Int) := by omega
        clear hj1 hj3 hj4
        go_wp2
        go_quiet (fail)
        have B5 := Lib.hid (below_drewN HB.out nq)
        clear e1 e3 e2
        go_wp2
        go_loopw [9] (fun i w' => ∃ m : Nat, k + 1 ≤ m ∧ (m ≤ j ∨ m = k + 1) ∧ i = .int .i64 m ∧ Below w4.heap.size w4 w') (fun i _ => n - (intOf i).toNat)
        case atStart => exact ⟨k + 1, Nat.le_refl _, .inr rfl, by go_num, B5.out⟩
        case round =>
          obtain ⟨m, hm1, hm2, rfl, hB6⟩ := hrel
          have e6 := HE2.out _ hB6
          have HB6 := Lib.hid hB6
          by_cases hmj : m < j
          · have e7 := HDD.out _ hB6 m (by omega)
            have e8 := HE1.out _ hB6
            have hgt := HBT.out m (by omega) hmj
            obtain ⟨dm, hdm⟩ : ∃ d, d = depT F m := ⟨_, rfl⟩
            rw [← hdm] at e7 hgt
            have t8 : ¬ (dm : Int) ≤ (dk : Int) := by omega
            have HND := Lib.hid hB6.drew
            clear hB6 hdm hgt
            go_wp2
            go_quiet (fail)
            have B7 := Lib.hid (below_drewN HB6.out nq)
            go_wp2
            go_roundw
            case rel => exact ⟨m + 1, by omega, by omega, by go_num, B7.out⟩
            case measure => simp [intOf]; omega
          · have t8 : ¬ (m : Int) < (j : Int) := by omega
            clear hB6
            go_wp2
            go_roundw
            case rel => exact ⟨k + 1, by omega, by go_num, HB6.out⟩
            case measure => simp [intOf]; omega
    · obtain rfl : k = n := by omega
      have B5 := Lib.hid (B4.out.trans (hB.mono B4.out.size))
      clear hB
      go_wp2
      go_ret
      exact ⟨rfl, B5.out⟩
theorem deeper_true (w : World) (hG : EG w) (v : Value) (L : List Tk) (h : TL w v L) :
    Calls Tryd.prog 8 #[v] w fun e W' => e = .returned (.bool true) ∧ Below w.heap.size w W' := by
  by_cases h0 : errA (fewL L) = 0
  · exact deeper_ok w hG v L h h0
  · exact deeper_no w hG v L h h0
end Go.Proofs.YthbiflmmlcmncaaDoor.Ti
