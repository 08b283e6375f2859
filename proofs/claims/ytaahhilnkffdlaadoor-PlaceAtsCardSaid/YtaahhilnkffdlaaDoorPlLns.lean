/- The statement PlaceLines, walked. -/
import Derived.Test.YtaahhilnkffdlaaDoorPlRef
import Derived.Test.YtaahhilnkffdlaaDoorPlVals
namespace Go.Proofs.YtaahhilnkffdlaaDoor
open Go Go.RowKit

set_option maxHeartbeats 1000000 in
set_option maxRecDepth 100000 in
/-- Ints(a, b), of one list twice, cell by cell. -/
theorem rints_cells (w : World) (ga gb ca cb N : Nat) (f : Nat → Nat) (hN : N ≤ 601) (hga : ga < w.heap.size) (hgb : gb < w.heap.size)
    (ha : ∀ j, j < N → w.cell? ⟨ga, j, none⟩ = some (.int .i64 ((f j : Nat) : Int))) (hb : ∀ j, j < N → w.cell? ⟨gb, j, none⟩ = some (.int .i64 ((f j : Nat) : Int))) :
    Calls Tryd.prog 16 #[.slice (some ⟨ga, 0, none⟩) N ca, .slice (some ⟨gb, 0, none⟩) N cb] w fun e W' => e = .returned (.bool true) ∧ Below w.heap.size w W' := by
  have HCA := Lib.hid ha
  have HCB := Lib.hid hb
  have HD := Lib.hid (Below.refl w.heap.size w)
  clear ha hb
  go_enter Tryd.func16, Tryd.ntmps16
  go_wp2
  go_loopw [5] (fun i wr => ∃ k : Nat, k ≤ N ∧ i = .int .i64 k ∧ Below w.heap.size w wr) (fun i _ => N - (intOf i).toNat)
  case atStart => exact ⟨0, Nat.zero_le _, rfl, HD.out⟩
  case round =>
    obtain ⟨k, hk, rfl, hB⟩ := hrel
    have HB := Lib.hid hB
    by_cases hlt : k < N
    · have e1 : wr.cell? ⟨ga, k, none⟩ = some (.int .i64 ((f k : Nat) : Int)) := by rw [hB.cell (p := ⟨ga, k, none⟩) hga]; exact HCA.out k hlt
      have e2 : wr.cell? ⟨gb, k, none⟩ = some (.int .i64 ((f k : Nat) : Int)) := by rw [hB.cell (p := ⟨gb, k, none⟩) hgb]; exact HCB.out k hlt
      have HN := Lib.hid hB.drew
      clear hB
      go_wp2_with fail
      go_region_held (fun w' => w'.cell? ⟨ga, k, none⟩ = some (.int .i64 ((f k : Nat) : Int)) ∧ w'.cell? ⟨gb, k, none⟩ = some (.int .i64 ((f k : Nat) : Int))) (go_keep) (fail)
      all_goals
        clear e1 e2 HB
        go_wp2
        go_roundw
        case rel => exact ⟨k + 1, by omega, by go_num, HN.out⟩
        case measure => simp [intOf]; omega
    · obtain rfl : k = N := by omega
      clear hB
      go_wp2
      go_ret
      exact ⟨rfl, HB.out⟩

theorem wid_val (T : List UInt8) (n u : Int) : ∃ c e : Int, WidOut T n u (.tuple #[.int .i64 c, .int .i64 e]) := by
  cases hu : isUnit u with
  | false => exact ⟨0, 2, .inl ⟨hu, rfl⟩⟩
  | true =>
    by_cases h : ∃ k : Nat, (k : Int) = n ∧ k < nlines T
    · obtain ⟨k, h1, h2⟩ := h
      exact ⟨_, _, .inr ⟨hu, .inl ⟨k, h1, h2, rfl⟩⟩⟩
    · exact ⟨0, 20, .inr ⟨hu, .inr ⟨fun k h1 h2 => h ⟨k, h1, h2⟩, rfl⟩⟩⟩
theorem lines_both (s : ByteArray) (hs : s.size ≤ 600) (n : Int) : ∃ (x : ByteArray) (e : Int),
    (∀ w, Ground w → Calls Tryd.prog 12 #[.string s, .int .i64 n] w fun f W' => f = .returned (.tuple #[.string x, .int .i64 e]) ∧ Below w.heap.size w W') ∧
    (∀ w, Calls Tryd.prog 13 #[.string s, .int .i64 n] w fun f W' => f = .returned (.tuple #[.string x, .int .i64 e]) ∧ Below w.heap.size w W') := by
  by_cases hn : 0 ≤ n ∧ n < (nlines s.data.toList : Int)
  · obtain ⟨k, rfl⟩ : ∃ k : Nat, n = (k : Int) := ⟨n.toNat, by omega⟩
    exact ⟨_, _, fun w _ => pline_ok s hs k (by omega) w, fun w => rline_at s hs k _ _ (by omega) rfl rfl w⟩
  · exact ⟨_, _, fun w hG => pline_no s hs n (by omega) w hG.2.1, fun w => rline_none s hs n (by omega) w⟩

set_option maxHeartbeats 4000000 in
set_option maxRecDepth 100000 in
theorem lines_true (w : World) (hG : Ground w) (s : ByteArray) (hs : s.size ≤ maxLen) (n u : Int) :
    Calls Tryd.prog 3 #[.string s, .int .i64 n, .int .i64 u] w fun e W' => e = .returned (.bool true) ∧ Below w.heap.size w W' := by
  have HC := fun w => Lib.hid (cut_c s hs w)
  obtain ⟨t, ht⟩ : ∃ t, t = cut6 s := ⟨_, rfl⟩
  have ht6 : t.size ≤ 600 := by rw [ht]; exact cut6_size s
  rw [← ht] at HC
  have HS := fun w h => Lib.hid (shown_c w h)
  have HG := Lib.hid hG
  clear ht hG
  obtain ⟨x, e, hL, hL'⟩ := lines_both t ht6 n
  obtain ⟨c, g, hW⟩ := wid_val t.data.toList n u
  have HL := fun w h => Lib.hid (hL w h)
  have HL' := fun w => Lib.hid (hL' w)
  have HW := fun w h => Lib.hid ((wid_c t ht6 n u w h).mono (R' := fun e W' => e = .returned (.tuple #[.int .i64 c, .int .i64 g]) ∧ Below w.heap.size w W') (by rintro e w' ⟨⟨v, rfl, hv⟩, hb⟩; exact ⟨by rw [widOut_one hv hW], hb⟩))
  have HW' := fun w => Lib.hid ((rwid_c t ht6 n u w).mono (R' := fun e W' => e = .returned (.tuple #[.int .i64 c, .int .i64 g]) ∧ Below w.heap.size w W') (by rintro e w' ⟨⟨v, rfl, hv⟩, hb⟩; exact ⟨by rw [widOut_one hv hW], hb⟩))
  obtain ⟨N, hN⟩ : ∃ N, N = nlines t.data.toList := ⟨_, rfl⟩
  have hN6 : N ≤ 601 := by have := nlines_le t.data.toList; rw [← Lib.size_eq] at this; omega
  have HP : ∀ w, Hid (Calls Tryd.prog 17 #[.string t] w fun e W' => ∃ g, e = .returned (.slice (some ⟨g, 0, none⟩) N N) ∧ g < W'.heap.size ∧ (∀ j, j < N → W'.cell? ⟨g, j, none⟩ = some (.int .i64 ((lineAt t.data.toList j : Nat) : Int))) ∧ Below w.heap.size w W') := fun w => Lib.hid (by
    refine (plines_c t ht6 w).mono ?_
    rintro e w' ⟨g, rfl, h1, h2, h3, hb⟩
    rw [← hN] at h3 ⊢
    refine ⟨g, rfl, h2, fun j hj => ?_, hb⟩
    rw [h3 j (by rw [lat_len]; exact hj)]
    simp [lat, hj])
  have HR : ∀ w, Hid (Calls Tryd.prog 18 #[.string t] w fun e W' => ∃ g c, e = .returned (.slice (some ⟨g, 0, none⟩) N c) ∧ g < W'.heap.size ∧ (∀ j, j < N → W'.cell? ⟨g, j, none⟩ = some (.int .i64 ((lineAt t.data.toList j : Nat) : Int))) ∧ Below w.heap.size w W') := fun w => Lib.hid (by
    refine (rlines w t ht6).mono ?_
    rintro e w' ⟨v, rfl, ho, hb⟩
    have hl : (starts t.data.toList t.size).length = N := by rw [hN, Lib.size_eq]; rfl
    obtain ⟨g, c, rfl, _, h2, h3⟩ := own_form ho (by rw [hl, hN]; exact nlines_pos _)
    rw [hl] at h3 ⊢
    exact ⟨g, c, rfl, h2, fun j hj => by rw [h3 j hj, Lib.size_eq]; rfl, hb⟩)
  clear hL hL' hW hN
  go_enter Tryd.func3, Tryd.ntmps3
  go_wp2_with fail
  refine (HS _ HG.out).out.mono ?_
  rintro e w1 ⟨rfl, hb1⟩
  have HG1 := Lib.hid (HG.out.below hb1 HG.out.2.2)
  have HB1 := Lib.hid hb1
  clear hb1
  go_wp2_with (go_at_call 11; refine (HC _).out.mono ?_; rintro e w' ⟨rfl, rfl⟩)
  refine (HL _ HG1.out).out.mono ?_
  rintro e w2 ⟨rfl, hb2⟩
  have HG2 := Lib.hid (HG1.out.below hb2 HG1.out.2.2)
  have HB2 := Lib.hid (HB1.out.trans (hb2.mono HB1.out.size))
  clear hb2
  go_wp2_with fail
  refine (HL' _).out.mono ?_
  rintro e w3 ⟨rfl, hb3⟩
  have HG3 := Lib.hid (HG2.out.below hb3 HG2.out.2.2)
  have HB3 := Lib.hid (HB2.out.trans (hb3.mono HB2.out.size))
  clear hb3
  go_wp2_with fail
  refine (HW _ HG3.out).out.mono ?_
  rintro e w4 ⟨rfl, hb4⟩
  have HB4 := Lib.hid (HB3.out.trans (hb4.mono HB3.out.size))
  clear hb4
  go_wp2_with fail
  refine (HW' _).out.mono ?_
  rintro e w5 ⟨rfl, hb5⟩
  have HB5 := Lib.hid (HB4.out.trans (hb5.mono HB4.out.size))
  clear hb5
  go_wp2_with fail
  refine (HP _).out.mono ?_
  rintro e w6 ⟨g1, rfl, hg1, hc1, hb6⟩
  have HB6 := Lib.hid (HB5.out.trans (hb6.mono HB5.out.size))
  have HC1 := Lib.hid hc1
  clear hb6 hc1
  go_wp2_with fail
  refine (HR _).out.mono ?_
  rintro e w7 ⟨g2, c2, rfl, hg2, hc2, hb7⟩
  have HB7 := Lib.hid (HB6.out.trans (hb7.mono HB6.out.size))
  have HI := Lib.hid (rints_cells w7 g1 g2 N c2 N (lineAt t.data.toList) hN6 (Nat.lt_of_lt_of_le hg1 hb7.size) hg2 (fun j hj => by rw [hb7.cell (p := ⟨g1, j, none⟩) hg1]; exact HC1.out j hj) hc2)
  clear hb7 hc2
  go_wp2_with fail
  refine HI.out.mono ?_
  rintro e w8 ⟨rfl, hb8⟩
  have HB8 := Lib.hid (HB7.out.trans (hb8.mono HB7.out.size))
  clear hb8
  go_wp2
  go_ret
  exact ⟨rfl, HB8.out⟩
end Go.Proofs.YtaahhilnkffdlaaDoor
