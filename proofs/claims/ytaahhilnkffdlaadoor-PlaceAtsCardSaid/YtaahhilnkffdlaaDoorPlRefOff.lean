/- The plain answers of place: Offset. -/
import Derived.Test.YtaahhilnkffdlaaDoorPlLns
import Derived.Deep.RegionLaw
namespace Go.Proofs.YtaahhilnkffdlaaDoor
open Go Go.RowKit

/-- Where the lines begin, one of them. -/
theorem rlines_at (t : ByteArray) (ht6 : t.size ≤ 600) (N : Nat) (hN : N = nlines t.data.toList) (w : World) :
    Calls Tryd.prog 18 #[.string t] w fun e W' => ∃ g c, e = .returned (.slice (some ⟨g, 0, none⟩) N c) ∧ g < W'.heap.size ∧ (∀ j, j < N → W'.cell? ⟨g, j, none⟩ = some (.int .i64 ((lineAt t.data.toList j : Nat) : Int))) ∧ Below w.heap.size w W' := by
  refine (rlines w t ht6).mono ?_
  rintro e w' ⟨v, rfl, ho, hb⟩
  have hl : (starts t.data.toList t.size).length = N := by rw [hN, Lib.size_eq]; rfl
  obtain ⟨g, c, rfl, _, h2, h3⟩ := own_form ho (by rw [hl, hN]; exact nlines_pos _)
  rw [hl] at h3 ⊢
  exact ⟨g, c, rfl, h2, fun j hj => by rw [h3 j hj, Lib.size_eq]; rfl, hb⟩
/-- The columns of a line; how many there are, as a letter. -/
theorem rcols_at (s : ByteArray) (hs : s.size ≤ 600) (k a b N : Nat) (u : Int) (T : List UInt8) (hT : T = lineT s.data.toList k) (ha : a = lineAt s.data.toList k) (hb : b = lineEnd s.data.toList k) (hN : N = rnds T u + 1) (w : World) :
    Calls Tryd.prog 31 #[.string (s.extract a b), .int .i64 u] w fun e W' => ∃ ga ca gc cc, e = .returned (.tuple #[.slice (some ⟨ga, 0, none⟩) N ca, .slice (some ⟨gc, 0, none⟩) N cc]) ∧ N ≤ 601 ∧ ga < W'.heap.size ∧ gc < W'.heap.size ∧
      (∀ j, j < N → W'.cell? ⟨ga, j, none⟩ = some (.int .i64 ((posK T u j : Nat) : Int))) ∧ (∀ j, j < N → W'.cell? ⟨gc, j, none⟩ = some (.int .i64 ((colK T u j : Nat) : Int))) ∧ Below w.heap.size w W' := by
  subst hT
  subst hN
  refine (rcols_line s hs k a b _ u ha hb rfl w).mono ?_
  rintro e w' ⟨ga, ca, gc, cc, rfl, h1, h2, h3, h4, h5, h6⟩
  exact ⟨ga, ca, gc, cc, rfl, by omega, h2, h3, fun j hj => h4 j (by omega), fun j hj => h5 j (by omega), h6⟩

set_option maxHeartbeats 2000000 in
set_option maxRecDepth 100000 in
theorem roff_in (s : ByteArray) (hs : s.size ≤ 600) (k : Nat) (hk : k < nlines s.data.toList) (col u : Int) (hu : isUnit u = true) (w : World) :
    Calls Tryd.prog 22 #[.string s, .int .i64 (k : Int), .int .i64 col, .int .i64 u] w fun e W' => (∃ v, e = .returned v ∧ OffOut s.data.toList (k : Int) col u v) ∧ Below w.heap.size w W' := by
  have HI : ∀ w, Hid (Calls Tryd.prog 30 #[.int .i64 u] w fun e W' => e = .returned (.bool true) ∧ w = W') := fun w => Lib.hid (by have := ris w u; rw [hu] at this; exact this)
  obtain ⟨a, ha⟩ : ∃ a, a = lineAt s.data.toList k := ⟨_, rfl⟩
  obtain ⟨b, hb⟩ : ∃ b, b = lineEnd s.data.toList k := ⟨_, rfl⟩
  obtain ⟨T, hT⟩ : ∃ T, T = lineT s.data.toList k := ⟨_, rfl⟩
  obtain ⟨N, hN⟩ : ∃ N, N = rnds T u + 1 := ⟨_, rfl⟩
  obtain ⟨M, hM⟩ : ∃ M, M = nlines s.data.toList := ⟨_, rfl⟩
  have ha6 : a ≤ 600 := by have := lineAt_le s.data.toList k hk; rw [← Lib.size_eq] at this; omega
  have hTl : T.length ≤ 600 := by
    have h1 := lineEnd_le s.data.toList k
    rw [← Lib.size_eq] at h1
    rw [hT, lineT_len]; omega
  have HL := fun w => Lib.hid (rline_at s hs k a b hk ha hb w)
  have HC := fun w => Lib.hid (rcols_at s hs k a b N u T hT ha hb hN w)
  have hM1 : k < M := by rw [hM]; exact hk
  have hM6 : M ≤ 601 := by have := nlines_le s.data.toList; rw [← Lib.size_eq] at this; omega
  have HLN : ∀ w, Hid (Calls Tryd.prog 18 #[.string s] w fun e W' => ∃ g c, e = .returned (.slice (some ⟨g, 0, none⟩) M c) ∧ W'.cell? ⟨g, k, none⟩ = some (.int .i64 (a : Int)) ∧ Below w.heap.size w W') := fun w => Lib.hid (by
    refine (rlines_at s hs M hM w).mono ?_
    rintro e w' ⟨g, c, rfl, _, h3, hb⟩
    exact ⟨g, c, rfl, by rw [h3 k hM1, ha], hb⟩)
  have HE1 : Hid (∀ j, j < N → ((colK T u j : Nat) : Int) = col → OffOut s.data.toList (k : Int) col u (.tuple #[.int .i64 ((a + posK T u j : Nat) : Int), .int .i64 0])) := Lib.hid (fun j hj hc => .inr ⟨hu, .inl ⟨k, j, rfl, hk, by rw [← hT]; omega, by rw [← hT]; exact hc, by rw [ha, ← hT]⟩⟩)
  have HE2 : Hid ((∀ j, j < N → ((colK T u j : Nat) : Int) ≠ col) → OffOut s.data.toList (k : Int) col u (.tuple #[.int .i64 0, .int .i64 20])) := Lib.hid (fun h => .inr ⟨hu, .inr ⟨fun k' r e _ hr => by
    obtain rfl : k' = k := by omega
    rw [← hT] at hr ⊢
    exact h r (by omega), rfl⟩⟩)
  have HPO : Hid (∀ j, j < N → posK T u j ≤ 600) := Lib.hid (fun j hj => by have := posK_le (rnds_lt T u) (r := j) (by omega); omega)
  clear ha hb hN hT hM hu hk hTl
  go_enter Tryd.func22, Tryd.ntmps22
  go_wp2_with fail
  refine (HI _).out.mono ?_
  rintro e w0 ⟨rfl, rfl⟩
  go_wp2_with fail
  refine (HL _).out.mono ?_
  rintro e w1 ⟨rfl, hb1⟩
  have HB1 := Lib.hid hb1
  clear hb1
  go_wp2_with fail
  refine (HC _).out.mono ?_
  rintro e w2 ⟨ga, ca, gc, cc, rfl, hN6, hga, hgc, h4, h5, hb2⟩
  have HB2 := Lib.hid (HB1.out.trans (hb2.mono HB1.out.size))
  have H4 := Lib.hid h4
  have H5 := Lib.hid h5
  have HD := Lib.hid (Below.refl w2.heap.size w2)
  clear h4 h5 hb2
  go_wp2
  go_loopw [14] (fun i wr => ∃ j : Nat, j ≤ N ∧ i = .int .i64 j ∧ (∀ q, q < j → ((colK T u q : Nat) : Int) ≠ col) ∧ Below w2.heap.size w2 wr) (fun i _ => N - (intOf i).toNat)
  case atStart => exact ⟨0, Nat.zero_le _, rfl, fun q hq => by omega, HD.out⟩
  case round =>
    obtain ⟨j, hj, rfl, hall, hB⟩ := hrel
    have HB := Lib.hid hB
    have HA := Lib.hid hall
    clear hall
    by_cases hlt : j < N
    · have d1 : wr.cell? ⟨gc, j, none⟩ = some (.int .i64 ((colK T u j : Nat) : Int)) := by rw [hB.cell (p := ⟨gc, j, none⟩) hgc]; exact H5.out j hlt
      have d2 : wr.cell? ⟨ga, j, none⟩ = some (.int .i64 ((posK T u j : Nat) : Int)) := by rw [hB.cell (p := ⟨ga, j, none⟩) hga]; exact H4.out j hlt
      have hgw : ga < wr.heap.size := Nat.lt_of_lt_of_le hga hB.size
      obtain ⟨c, hc⟩ : ∃ c, c = colK T u j := ⟨_, rfl⟩
      obtain ⟨p, hp⟩ : ∃ p, p = posK T u j := ⟨_, rfl⟩
      have hp6 : p ≤ 600 := by rw [hp]; exact HPO.out j hlt
      rw [← hc] at d1
      rw [← hp] at d2
      have HCC := Lib.hid hc
      have HPP := Lib.hid hp
      have HD2 := Lib.hid d2
      clear hB hc hp
      by_cases heq : (c : Int) = col
      · have t1 : ((c : Int) == col) = true := beq_iff_eq.2 heq
        obtain ⟨v, hv⟩ : ∃ v : Nat, (a : Int) + (p : Int) = (v : Int) := ⟨a + p, by omega⟩
        have hvn : v = a + p := by omega
        have hv6 : v ≤ 1200 := by omega
        have HE : Hid (OffOut s.data.toList (k : Int) col u (.tuple #[.int .i64 (v : Int), .int .i64 0])) := Lib.hid (by rw [hvn, HPP.out]; exact HE1.out j hlt (by rw [← HCC.out]; exact heq))
        have hwv : IntKind.wrap .i64 (v : Int) = (v : Int) := by unfold IntKind.wrap; simp [IntKind.signed, IntKind.bits]; omega
        clear heq hvn
        go_wp2_with fail
        go_region_law (go_simp; go_at_call 18; refine (HLN _).out.mono ?_; rintro e w3 ⟨g3, c3, rfl, d3, hb3⟩; have dp3 : w3.cell? ⟨ga, j, none⟩ = some (.int .i64 (p : Int)) := (hb3.cell (p := ⟨ga, j, none⟩) hgw).trans HD2.out; have HB3 := Lib.hid hb3; clear hb3; dsimp only)
        all_goals
          simp only [List.getElem_toArray, List.getElem_cons_succ, List.getElem_cons_zero, Act.put, List.setIfInBounds_toArray, List.set_cons_zero, List.set_cons_succ]
          go_wp2
          go_ret2
          have HBE := HB2.out.trans ((HB.out.drew.trans (HB3.out.mono HB.out.size)).mono HB2.out.size)
          exact ⟨⟨.tuple #[.int .i64 (v : Int), .int .i64 0], rfl, HE.out⟩, HBE⟩
      · have t1 : ((c : Int) == col) = false := beq_eq_false_iff_ne.2 heq
        have HQ : Hid ((c : Int) ≠ col) := Lib.hid heq
        clear heq d2
        go_wp2
        go_roundw
        case rel =>
          refine ⟨j + 1, by omega, by go_num, fun q hq => ?_, HB.out⟩
          rcases Nat.lt_or_ge q j with h | h
          · exact HA.out q h
          · obtain rfl : q = j := by omega
            rw [← HCC.out]; exact HQ.out
        case measure => simp [intOf]; omega
    · obtain rfl : j = N := by omega
      clear hB
      go_wp2
      go_ret2
      exact ⟨⟨_, rfl, HE2.out HA.out⟩, HB2.out.trans (HB.out.mono HB2.out.size)⟩

set_option maxHeartbeats 1000000 in
set_option maxRecDepth 100000 in
theorem roff_c (s : ByteArray) (hs : s.size ≤ 600) (n col u : Int) (w : World) :
    Calls Tryd.prog 22 #[.string s, .int .i64 n, .int .i64 col, .int .i64 u] w fun e W' => (∃ v, e = .returned v ∧ OffOut s.data.toList n col u v) ∧ Below w.heap.size w W' := by
  by_cases hu : isUnit u = true
  · by_cases hn : 0 ≤ n ∧ n < (nlines s.data.toList : Int)
    · obtain ⟨k, rfl⟩ : ∃ k : Nat, n = (k : Int) := ⟨n.toNat, by omega⟩
      exact roff_in s hs k (by omega) col u hu w
    · have HI : ∀ w, Hid (Calls Tryd.prog 30 #[.int .i64 u] w fun e W' => e = .returned (.bool true) ∧ w = W') := fun w => Lib.hid (by have := ris w u; rw [hu] at this; exact this)
      have HL := fun w => Lib.hid (rline_none s hs n (by omega) w)
      have HE : Hid (OffOut s.data.toList n col u (.tuple #[.int .i64 0, .int .i64 20])) := Lib.hid (.inr ⟨hu, .inr ⟨fun k r e hlt => by omega, rfl⟩⟩)
      clear hn hu
      go_enter Tryd.func22, Tryd.ntmps22
      go_wp2_with fail
      refine (HI _).out.mono ?_
      rintro e w0 ⟨rfl, rfl⟩
      go_wp2_with fail
      refine (HL _).out.mono ?_
      rintro e w1 ⟨rfl, hb1⟩
      have HB1 := Lib.hid hb1
      clear hb1
      go_wp2
      go_ret2
      exact ⟨⟨_, rfl, HE.out⟩, HB1.out⟩
  · have hu' : isUnit u = false := by simpa using hu
    have HI : ∀ w, Hid (Calls Tryd.prog 30 #[.int .i64 u] w fun e W' => e = .returned (.bool false) ∧ w = W') := fun w => Lib.hid (by have := ris w u; rw [hu'] at this; exact this)
    have HE : Hid (OffOut s.data.toList n col u (.tuple #[.int .i64 0, .int .i64 2])) := Lib.hid (.inl ⟨hu', rfl⟩)
    have HB := Lib.hid (Below.refl w.heap.size w)
    clear hu hu'
    go_enter Tryd.func22, Tryd.ntmps22
    go_wp2_with fail
    refine (HI _).out.mono ?_
    rintro e w0 ⟨rfl, rfl⟩
    go_wp2
    go_ret2
    exact ⟨⟨_, rfl, HE.out⟩, HB.out⟩
end Go.Proofs.YtaahhilnkffdlaaDoor
