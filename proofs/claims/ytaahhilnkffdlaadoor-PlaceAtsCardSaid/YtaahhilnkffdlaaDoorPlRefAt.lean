/- The plain answers of place: At. -/
import Derived.Test.YtaahhilnkffdlaaDoorPlRefOff
namespace Go.Proofs.YtaahhilnkffdlaaDoor
open Go Go.RowKit

/-- Where the next line begins, the line is over. -/
theorem at_line {T : List UInt8} {u : Int} {p q : Nat} (hq : q < nlines T) (h1 : lineAt T q ≤ p) (h2 : ∀ j, q < j → j < nlines T → p < lineAt T j) {k r : Nat} (hk : k < nlines T) (hr : r ≤ rnds (lineT T k) u) (he : lineAt T k + posK (lineT T k) u r = p) : k = q := by
  have h3 := place_in hk hr
  rcases Nat.lt_trichotomy k q with h | h | h
  · have := lineAt_up T h hq; omega
  · exact h
  · have := h2 k h hk; omega

set_option maxHeartbeats 4000000 in
set_option maxRecDepth 100000 in
theorem rat_in (s : ByteArray) (hs : s.size ≤ 600) (p : Nat) (hp : p ≤ s.size) (u : Int) (hu : isUnit u = true) (w : World) :
    Calls Tryd.prog 20 #[.string s, .int .i64 (p : Int), .int .i64 u] w fun e W' => (∃ v, e = .returned v ∧ AtOut s.data.toList (p : Int) u v) ∧ Below w.heap.size w W' := by
  have HI : ∀ w, Hid (Calls Tryd.prog 30 #[.int .i64 u] w fun e W' => e = .returned (.bool true) ∧ w = W') := fun w => Lib.hid (by have := ris w u; rw [hu] at this; exact this)
  obtain ⟨M, hM⟩ : ∃ M, M = nlines s.data.toList := ⟨_, rfl⟩
  have hM6 : M ≤ 601 := by have := nlines_le s.data.toList; rw [← Lib.size_eq] at this; omega
  obtain ⟨m0, hm0⟩ : ∃ m0, M = m0 + 1 := ⟨M - 1, by have := nlines_pos s.data.toList; omega⟩
  have hm1 : (M : Int) - 1 = (m0 : Int) := by omega
  have HLN := fun w => Lib.hid (rlines_at s hs M hM w)
  have HMM := Lib.hid hM
  have HU := Lib.hid hu
  clear hu hM
  go_enter Tryd.func20, Tryd.ntmps20
  go_wp2_with fail
  refine (HI _).out.mono ?_
  rintro e w0 ⟨rfl, rfl⟩
  go_wp2_with fail
  refine (HLN _).out.mono ?_
  rintro e w1 ⟨g, cg, rfl, hg, h1, hb1⟩
  have HB1 := Lib.hid hb1
  have H1 := Lib.hid h1
  have HD1 := Lib.hid (Below.refl w1.heap.size w1)
  clear h1 hb1
  go_wp2
  go_loopw [10] (fun n wr => ∃ q : Nat, q < M ∧ n = .int .i64 q ∧ (∀ j, q < j → j < M → p < lineAt s.data.toList j) ∧ Below w1.heap.size w1 wr) (fun n _ => (intOf n).toNat)
  case atStart => exact ⟨m0, by omega, rfl, fun j h1 h2 => by omega, HD1.out⟩
  case round =>
    obtain ⟨q, hq, rfl, hall, hB⟩ := hrel
    have HB := Lib.hid hB
    have HA := Lib.hid hall
    clear hall
    have d1 : wr.cell? ⟨g, q, none⟩ = some (.int .i64 ((lineAt s.data.toList q : Nat) : Int)) := by rw [hB.cell (p := ⟨g, q, none⟩) hg]; exact H1.out q hq
    have HZ : Hid (lineAt s.data.toList 0 = 0) := Lib.hid (lineAt_zero _)
    obtain ⟨a, ha⟩ : ∃ a, a = lineAt s.data.toList q := ⟨_, rfl⟩
    rw [← ha] at d1
    have HAA := Lib.hid ha
    clear ha hB
    by_cases hlt : p < a
    · have hq0 : q ≠ 0 := fun e => by
        have h := HAA.out
        rw [e, HZ.out] at h; omega
      obtain ⟨q1, hq1⟩ : ∃ q1, q = q1 + 1 := ⟨q - 1, by omega⟩
      have hq2 : (q : Int) - 1 = (q1 : Int) := by omega
      have HQ := Lib.hid hq1
      clear hq0 hq1
      go_wp2
      go_roundw
      case rel =>
        have e := HQ.out
        refine ⟨q1, by omega, rfl, fun j h2 h3 => ?_, HB.out⟩
        rcases Nat.lt_or_ge q j with h | h
        · exact HA.out j h h3
        · obtain rfl : j = q := by omega
          rw [← HAA.out]; exact hlt
      case measure =>
        have e := HQ.out
        simp [intOf]; omega
    · have hap : a ≤ p := by omega
      have ha6 : a ≤ 600 := by omega
      obtain ⟨b, hb⟩ : ∃ b, b = lineEnd s.data.toList q := ⟨_, rfl⟩
      obtain ⟨T, hT⟩ : ∃ T, T = lineT s.data.toList q := ⟨_, rfl⟩
      obtain ⟨N, hN⟩ : ∃ N, N = rnds T u + 1 := ⟨_, rfl⟩
      have hqn : q < nlines s.data.toList := by rw [← HMM.out]; exact hq
      have HL := fun w => Lib.hid (rline_at s hs q a b hqn HAA.out hb w)
      have HC := fun w => Lib.hid (rcols_at s hs q a b N u T hT HAA.out hb hN w)
      have HPO : Hid (∀ j, j < N → posK T u j ≤ 600 ∧ colK T u j ≤ 1200) := Lib.hid (fun j hj => by
        have h1 := posK_le (rnds_lt T u) (r := j) (by omega)
        have h2 := colK_le (rnds_lt T u) (r := j) (by omega)
        have h3 := lineEnd_le s.data.toList q
        rw [← Lib.size_eq] at h3
        rw [hT, lineT_len] at h1
        rw [← hT] at h1
        omega)
      have HE1 : Hid (∀ j, j < N → a + posK T u j = p → AtOut s.data.toList (p : Int) u (.tuple #[.int .i64 (q : Int), .int .i64 ((colK T u j : Nat) : Int), .int .i64 0])) := Lib.hid (fun j hj hc => .inr ⟨HU.out, .inl ⟨q, j, hqn, by rw [← hT]; omega, by rw [← hT, ← HAA.out]; omega, by rw [← hT]⟩⟩)
      have HE2 : Hid ((∀ j, j < N → a + posK T u j ≠ p) → AtOut s.data.toList (p : Int) u (.tuple #[.int .i64 0, .int .i64 0, .int .i64 20])) := Lib.hid (fun h => .inr ⟨HU.out, .inr ⟨fun k r hk hr he => by
        have he' : lineAt s.data.toList k + posK (lineT s.data.toList k) u r = p := by omega
        obtain rfl := at_line hqn (by rw [← HAA.out]; exact hap) (fun j h1 h2 => HA.out j h1 (by rw [HMM.out]; exact h2)) hk hr he'
        rw [← hT] at hr he'
        rw [← HAA.out] at he'
        exact h r (by omega) he', rfl⟩⟩)
      have HW1 : Hid (Below w.heap.size w wr) := Lib.hid (HB1.out.trans (HB.out.mono HB1.out.size))
      have hgr : g < wr.heap.size := Nat.lt_of_lt_of_le hg HB.out.size
      have D1 := Lib.hid d1
      clear hb hT hN hqn
      go_wp2_with fail
      refine (HL _).out.mono ?_
      rintro e w2 ⟨rfl, hb2⟩
      have D2 : Hid (w2.cell? ⟨g, q, none⟩ = some (.int .i64 (a : Int))) := Lib.hid ((hb2.cell (p := ⟨g, q, none⟩) hgr).trans D1.out)
      have hg2 : g < w2.heap.size := Nat.lt_of_lt_of_le hgr hb2.size
      have HW2 : Hid (Below w.heap.size w w2) := Lib.hid (HW1.out.trans (hb2.mono HW1.out.size))
      clear hb2 d1
      go_wp2_with fail
      refine (HC _).out.mono ?_
      rintro e w3 ⟨ga, ca, gc, cc, rfl, hN6, hga, hgc, h4, h5, hb3⟩
      have D3 : Hid (w3.cell? ⟨g, q, none⟩ = some (.int .i64 (a : Int))) := Lib.hid ((hb3.cell (p := ⟨g, q, none⟩) hg2).trans D2.out)
      have hg3 : g < w3.heap.size := Nat.lt_of_lt_of_le hg2 hb3.size
      have HW3 : Hid (Below w.heap.size w w3) := Lib.hid (HW2.out.trans (hb3.mono HW2.out.size))
      have H4 := Lib.hid h4
      have H5 := Lib.hid h5
      have HD3 := Lib.hid (Below.refl w3.heap.size w3)
      clear h4 h5 hb3
      go_wp2
      go_loopw [15] (fun i wr => ∃ j : Nat, j ≤ N ∧ i = .int .i64 j ∧ (∀ r, r < j → a + posK T u r ≠ p) ∧ Below w3.heap.size w3 wr) (fun i _ => N - (intOf i).toNat)
      case atStart => exact ⟨0, Nat.zero_le _, rfl, fun r hr => by omega, HD3.out⟩
      case round =>
        obtain ⟨j, hj, rfl, hall2, hB⟩ := hrel
        have HBV := Lib.hid hB
        have HA2 := Lib.hid hall2
        clear hall2
        by_cases hjn : j < N
        · obtain ⟨c, hc⟩ : ∃ c, c = colK T u j := ⟨_, rfl⟩
          obtain ⟨x, hx⟩ : ∃ x, x = posK T u j := ⟨_, rfl⟩
          have e1 : wr.cell? ⟨g, q, none⟩ = some (.int .i64 (a : Int)) := (hB.cell (p := ⟨g, q, none⟩) hg3).trans D3.out
          have e2 : wr.cell? ⟨ga, j, none⟩ = some (.int .i64 (x : Int)) := by rw [hB.cell (p := ⟨ga, j, none⟩) hga, hx]; exact H4.out j hjn
          have e3 : wr.drew.cell? ⟨gc, j, none⟩ = some (.int .i64 (c : Int)) := by
            show wr.cell? ⟨gc, j, none⟩ = _
            rw [hB.cell (p := ⟨gc, j, none⟩) hgc, hc]; exact H5.out j hjn
          have hx6 : x ≤ 600 ∧ c ≤ 1200 := by rw [hx, hc]; exact HPO.out j hjn
          obtain ⟨hx6, hc6⟩ := hx6
          obtain ⟨v, hv⟩ : ∃ v : Nat, (a : Int) + (x : Int) = (v : Int) := ⟨a + x, by omega⟩
          have hv6 : v ≤ 1200 := by omega
          have hwv : IntKind.wrap .i64 (v : Int) = (v : Int) := by unfold IntKind.wrap; simp [IntKind.signed, IntKind.bits]; omega
          have HV : Hid (v = a + posK T u j) := Lib.hid (by rw [← hx]; omega)
          have HCC := Lib.hid hc
          have HN2 := Lib.hid hB.drew
          clear hB hc hx
          by_cases heq : v = p
          · subst heq
            have HE : Hid (AtOut s.data.toList (v : Int) u (.tuple #[.int .i64 (q : Int), .int .i64 (c : Int), .int .i64 0])) := Lib.hid (by rw [HCC.out]; exact HE1.out j hjn HV.out.symm)
            go_wp2_with fail
            go_region_held (fun w' => w'.cell? ⟨g, q, none⟩ = some (.int .i64 (a : Int)) ∧ w'.cell? ⟨ga, j, none⟩ = some (.int .i64 (x : Int))) (go_keep) (fail)
            all_goals
              go_wp2_with fail
              go_region_held (fun w' => w'.cell? ⟨gc, j, none⟩ = some (.int .i64 (c : Int))) (go_keep) (fail)
              all_goals
                go_wp2
                refine bodyPost_ret (v := .tuple #[.int .i64 (q : Int), .int .i64 (c : Int), .int .i64 0]) (by simp [results, Tryd.f20, go_sem]) rfl ⟨⟨_, rfl, HE.out⟩, HW3.out.trans ((HN2.out.drew).mono HW3.out.size)⟩
          · have t1 : ((v : Int) == (p : Int)) = false := beq_eq_false_iff_ne.2 (by omega)
            have t2 : (v == p) = false := beq_eq_false_iff_ne.2 heq
            have HQ : Hid (v ≠ p) := Lib.hid heq
            clear e3
            go_wp2_with fail
            go_region_held (fun w' => w'.cell? ⟨g, q, none⟩ = some (.int .i64 (a : Int)) ∧ w'.cell? ⟨ga, j, none⟩ = some (.int .i64 (x : Int))) (go_keep) (fail)
            all_goals
              clear e1 e2
              go_wp2
              go_roundw
              case rel =>
                refine ⟨j + 1, by omega, by go_num, fun r hr => ?_, HN2.out⟩
                rcases Nat.lt_or_ge r j with h | h
                · exact HA2.out r h
                · obtain rfl : r = j := by omega
                  rw [← HV.out]; exact HQ.out
              case measure => simp [intOf]; omega
        · obtain rfl : j = N := by omega
          clear hB
          go_wp2
          refine bodyPost_ret (v := .tuple #[.int .i64 0, .int .i64 0, .int .i64 20]) (by simp [results, Tryd.f20, go_sem]) rfl ⟨⟨_, rfl, HE2.out HA2.out⟩, HW3.out.trans (HBV.out.mono HW3.out.size)⟩

set_option maxHeartbeats 1000000 in
set_option maxRecDepth 100000 in
theorem rat_c (s : ByteArray) (hs : s.size ≤ 600) (p u : Int) (w : World) :
    Calls Tryd.prog 20 #[.string s, .int .i64 p, .int .i64 u] w fun e W' => (∃ v, e = .returned v ∧ AtOut s.data.toList p u v) ∧ Below w.heap.size w W' := by
  have HB := Lib.hid (Below.refl w.heap.size w)
  by_cases hu : isUnit u = true
  · by_cases hp : 0 ≤ p ∧ p ≤ (s.size : Int)
    · obtain ⟨n, rfl⟩ : ∃ n : Nat, p = (n : Int) := ⟨p.toNat, by omega⟩
      exact rat_in s hs n (by omega) u hu w
    · have HI : ∀ w, Hid (Calls Tryd.prog 30 #[.int .i64 u] w fun e W' => e = .returned (.bool true) ∧ w = W') := fun w => Lib.hid (by have := ris w u; rw [hu] at this; exact this)
      have HE : Hid (AtOut s.data.toList p u (.tuple #[.int .i64 0, .int .i64 0, .int .i64 20])) := Lib.hid (.inr ⟨hu, .inr ⟨fun k r hk hr h => hp (by
        have h1 := place_in hk hr
        have h2 := lineEnd_le s.data.toList k
        rw [← Lib.size_eq] at h2
        omega), rfl⟩⟩)
      clear hu
      by_cases h0 : p < 0
      · clear hp
        go_enter Tryd.func20, Tryd.ntmps20
        go_wp2_with fail
        refine (HI _).out.mono ?_
        rintro e w0 ⟨rfl, rfl⟩
        go_wp2
        refine bodyPost_ret (v := .tuple #[.int .i64 0, .int .i64 0, .int .i64 20]) (by simp [results, Tryd.f20, go_sem]) rfl ⟨⟨_, rfl, HE.out⟩, HB.out⟩
      · have h2 : (s.size : Int) < p := by omega
        clear hp
        go_enter Tryd.func20, Tryd.ntmps20
        go_wp2_with fail
        refine (HI _).out.mono ?_
        rintro e w0 ⟨rfl, rfl⟩
        go_wp2
        refine bodyPost_ret (v := .tuple #[.int .i64 0, .int .i64 0, .int .i64 20]) (by simp [results, Tryd.f20, go_sem]) rfl ⟨⟨_, rfl, HE.out⟩, HB.out⟩
  · have hu' : isUnit u = false := by simpa using hu
    have HI : ∀ w, Hid (Calls Tryd.prog 30 #[.int .i64 u] w fun e W' => e = .returned (.bool false) ∧ w = W') := fun w => Lib.hid (by have := ris w u; rw [hu'] at this; exact this)
    have HE : Hid (AtOut s.data.toList p u (.tuple #[.int .i64 0, .int .i64 0, .int .i64 2])) := Lib.hid (.inl ⟨hu', rfl⟩)
    clear hu hu'
    go_enter Tryd.func20, Tryd.ntmps20
    go_wp2_with fail
    refine (HI _).out.mono ?_
    rintro e w0 ⟨rfl, rfl⟩
    go_wp2
    refine bodyPost_ret (v := .tuple #[.int .i64 0, .int .i64 0, .int .i64 2]) (by simp [results, Tryd.f20, go_sem]) rfl ⟨⟨_, rfl, HE.out⟩, HB.out⟩
end Go.Proofs.YtaahhilnkffdlaaDoor
