/- What the calls tell is one thing; a known place; the first bytes of a text. -/
import Derived.Test.YtaahhilnkffdlaaDoorPgAt
import Derived.Test.YtaahhilnkffdlaaDoorPgWid
import Derived.Test.YtaahhilnkffdlaaDoorPgLs
import Derived.Laws.Strings3
namespace Go.Proofs.YtaahhilnkffdlaaDoor
open Go Go.RowKit

theorem place_one {T : List UInt8} {u : Int} {k k' r r' : Nat} (hk : k < nlines T) (hk' : k' < nlines T) (hr : r ≤ rnds (lineT T k) u) (hr' : r' ≤ rnds (lineT T k') u) (h : lineAt T k + posK (lineT T k) u r = lineAt T k' + posK (lineT T k') u r') : k = k' ∧ r = r' := by
  have i1 := place_in hk hr
  have i2 := place_in hk' hr'
  have e : k = k' := by
    rcases Nat.lt_trichotomy k k' with h1 | h1 | h1
    · have := lineAt_up T h1 hk'; omega
    · exact h1
    · have := lineAt_up T h1 hk; omega
  subst e
  refine ⟨rfl, ?_⟩
  rcases Nat.lt_trichotomy r r' with h1 | h1 | h1
  · have := posK_up (rnds_lt (lineT T k) u) h1 hr'; omega
  · exact h1
  · have := posK_up (rnds_lt (lineT T k) u) h1 hr; omega
theorem col_one {T : List UInt8} {u : Int} {r r' : Nat} (hr : r ≤ rnds T u) (hr' : r' ≤ rnds T u) (h : colK T u r = colK T u r') : r = r' := by
  rcases Nat.lt_trichotomy r r' with h1 | h1 | h1
  · have := colK_up (rnds_lt T u) h1 hr'; omega
  · exact h1
  · have := colK_up (rnds_lt T u) h1 hr; omega

theorem atOut_one {T : List UInt8} {a u : Int} {v v' : Value} (h : AtOut T a u v) (h' : AtOut T a u v') : v = v' := by
  rcases h with ⟨hu, rfl⟩ | ⟨hu, ⟨k, r, hk, hr, ha, rfl⟩ | ⟨hn, rfl⟩⟩ <;> rcases h' with ⟨hu', rfl⟩ | ⟨hu', ⟨k', r', hk', hr', ha', rfl⟩ | ⟨hn', rfl⟩⟩
  · rfl
  · rw [hu] at hu'; cases hu'
  · rw [hu] at hu'; cases hu'
  · rw [hu] at hu'; cases hu'
  · obtain ⟨rfl, rfl⟩ := place_one hk hk' hr hr' (by omega)
    rfl
  · exact absurd ha (hn' k r hk hr)
  · rw [hu] at hu'; cases hu'
  · exact absurd ha' (hn k' r' hk' hr')
  · rfl
theorem offOut_one {T : List UInt8} {n c u : Int} {v v' : Value} (h : OffOut T n c u v) (h' : OffOut T n c u v') : v = v' := by
  rcases h with ⟨hu, rfl⟩ | ⟨hu, ⟨k, r, hkn, hk, hr, ha, rfl⟩ | ⟨hn, rfl⟩⟩ <;> rcases h' with ⟨hu', rfl⟩ | ⟨hu', ⟨k', r', hkn', hk', hr', ha', rfl⟩ | ⟨hn', rfl⟩⟩
  · rfl
  · rw [hu] at hu'; cases hu'
  · rw [hu] at hu'; cases hu'
  · rw [hu] at hu'; cases hu'
  · obtain rfl : k = k' := by omega
    obtain rfl := col_one hr hr' (by omega)
    rfl
  · exact absurd ha (hn' k r hkn hk hr)
  · rw [hu] at hu'; cases hu'
  · exact absurd ha' (hn k' r' hkn' hk' hr')
  · rfl
theorem widOut_one {T : List UInt8} {n u : Int} {v v' : Value} (h : WidOut T n u v) (h' : WidOut T n u v') : v = v' := by
  rcases h with ⟨hu, rfl⟩ | ⟨hu, ⟨k, hkn, hk, rfl⟩ | ⟨hn, rfl⟩⟩ <;> rcases h' with ⟨hu', rfl⟩ | ⟨hu', ⟨k', hkn', hk', rfl⟩ | ⟨hn', rfl⟩⟩
  · rfl
  · rw [hu] at hu'; cases hu'
  · rw [hu] at hu'; cases hu'
  · rw [hu] at hu'; cases hu'
  · obtain rfl : k = k' := by omega
    rfl
  · exact absurd hk (hn' k hkn)
  · rw [hu] at hu'; cases hu'
  · exact absurd hk' (hn k' hkn')
  · rfl

/-! ### The known place -/
abbrev sh : ByteArray := ⟨#[97, 226, 134, 144, 49, 10, 98]⟩
theorem rn {T : List UInt8} {u : Int} (R : Nat) (h1 : (posK T u R == T.length) = true) (h2 : ((List.range R).all fun q => decide (posK T u q < T.length)) = true) : rnds T u = R := by
  refine (rnds_of (by simpa using h1) (fun q hq => ?_)).symm
  rw [List.all_eq_true] at h2
  simpa using h2 q (List.mem_range.2 hq)
theorem sh_lines : nlines sh.data.toList = 2 := by kernel_rfl
theorem sh_l0 : lineT sh.data.toList 0 = [97, 226, 134, 144, 49] := by kernel_rfl
theorem sh_l1 : lineT sh.data.toList 1 = [98] := by kernel_rfl
theorem sh_a0 : lineAt sh.data.toList 0 = 0 := by kernel_rfl
theorem sh_a1 : lineAt sh.data.toList 1 = 6 := by kernel_rfl
theorem sh_at1 : AtOut sh.data.toList 4 1 (.tuple #[.int .i64 0, .int .i64 4, .int .i64 0]) :=
  .inr ⟨rfl, .inl ⟨0, 4, by rw [sh_lines]; omega, by rw [sh_l0, rn 5 (by kernel_rfl) (by kernel_rfl)]; omega, by kernel_rfl, by kernel_rfl⟩⟩
theorem sh_at3 : AtOut sh.data.toList 4 3 (.tuple #[.int .i64 0, .int .i64 2, .int .i64 0]) :=
  .inr ⟨rfl, .inl ⟨0, 2, by rw [sh_lines]; omega, by rw [sh_l0, rn 3 (by kernel_rfl) (by kernel_rfl)]; omega, by kernel_rfl, by kernel_rfl⟩⟩
theorem sh_at2 : AtOut sh.data.toList 2 2 (.tuple #[.int .i64 0, .int .i64 0, .int .i64 20]) := by
  refine .inr ⟨rfl, .inr ⟨fun k r hk hr => ?_, rfl⟩⟩
  rw [sh_lines] at hk
  have e : k = 0 ∨ k = 1 := by omega
  rcases e with rfl | rfl
  · rw [sh_l0] at hr ⊢
    rw [rn 3 (by kernel_rfl) (by kernel_rfl)] at hr
    rw [sh_a0]
    have e : r = 0 ∨ r = 1 ∨ r = 2 ∨ r = 3 := by omega
    rcases e with rfl | rfl | rfl | rfl
    · exact (by decide : ((0 : Int) ≠ 2))
    · exact (by decide : ((1 : Int) ≠ 2))
    · exact (by decide : ((4 : Int) ≠ 2))
    · exact (by decide : ((5 : Int) ≠ 2))
  · rw [sh_a1]
    omega
theorem sh_off : OffOut sh.data.toList 1 1 2 (.tuple #[.int .i64 7, .int .i64 0]) :=
  .inr ⟨rfl, .inl ⟨1, 1, rfl, by rw [sh_lines]; omega, by rw [sh_l1, rn 1 (by kernel_rfl) (by kernel_rfl)]; omega, by kernel_rfl, by kernel_rfl⟩⟩

set_option maxHeartbeats 2000000 in
set_option maxRecDepth 100000 in
/-- shown(): a place is known. -/
theorem shown_c (w : World) (hG : Ground w) :
    Calls Tryd.prog 10 #[] w fun e W' => e = .returned (.bool true) ∧ Below w.heap.size w W' := by
  have HA1 := fun (w : World) (h : Ground w) => Lib.hid ((at_c sh (by decide) 4 1 w h).mono (R' := fun e W' => e = .returned (.tuple #[.int .i64 0, .int .i64 4, .int .i64 0]) ∧ Below w.heap.size w W') (by rintro e w' ⟨⟨v, rfl, hv⟩, hb⟩; exact ⟨by rw [atOut_one hv sh_at1], hb⟩))
  have HA3 := fun (w : World) (h : Ground w) => Lib.hid ((at_c sh (by decide) 4 3 w h).mono (R' := fun e W' => e = .returned (.tuple #[.int .i64 0, .int .i64 2, .int .i64 0]) ∧ Below w.heap.size w W') (by rintro e w' ⟨⟨v, rfl, hv⟩, hb⟩; exact ⟨by rw [atOut_one hv sh_at3], hb⟩))
  have HA2 := fun (w : World) (h : Ground w) => Lib.hid ((at_c sh (by decide) 2 2 w h).mono (R' := fun e W' => e = .returned (.tuple #[.int .i64 0, .int .i64 0, .int .i64 20]) ∧ Below w.heap.size w W') (by rintro e w' ⟨⟨v, rfl, hv⟩, hb⟩; exact ⟨by rw [atOut_one hv sh_at2], hb⟩))
  have HO := fun (w : World) (h : Ground w) => Lib.hid ((off_c sh (by decide) 1 1 2 w h).mono (R' := fun e W' => e = .returned (.tuple #[.int .i64 7, .int .i64 0]) ∧ Below w.heap.size w W') (by rintro e w' ⟨⟨v, rfl, hv⟩, hb⟩; exact ⟨by rw [offOut_one hv sh_off], hb⟩))
  have HL := fun (w : World) => Lib.hid ((plines_c sh (by decide) w).mono (R' := fun e W' => ∃ g, e = .returned (.slice (some ⟨g, 0, none⟩) 2 2) ∧ W'.cell? ⟨g, 1, none⟩ = some (.int .i64 6) ∧ g < W'.heap.size ∧ Below w.heap.size w W') (by
    rintro e w' ⟨g, rfl, h1, h2, h3, hb⟩
    refine ⟨g, by rw [sh_lines], ?_, h2, hb⟩
    have := h3 1 (by rw [lat_len, sh_lines]; omega)
    rw [this, sh_lines]
    show some (Value.int .i64 ((lineAt sh.data.toList 1 : Nat) : Int)) = _
    rw [sh_a1]
    rfl))
  have HG := Lib.hid hG
  clear hG
  go_enter Tryd.func10, Tryd.ntmps10
  go_wp2_with fail
  refine (HA1 _ HG.out).out.mono ?_
  rintro e w1 ⟨rfl, hb1⟩
  have HG1 := Lib.hid (HG.out.below hb1 HG.out.2.2)
  have HB1 := Lib.hid hb1
  clear hb1
  go_wp2_with fail
  refine (HA3 _ HG1.out).out.mono ?_
  rintro e w2 ⟨rfl, hb2⟩
  have HG2 := Lib.hid (HG1.out.below hb2 HG1.out.2.2)
  have HB2 := Lib.hid (HB1.out.trans (hb2.mono HB1.out.size))
  clear hb2
  go_wp2_with fail
  refine (HA2 _ HG2.out).out.mono ?_
  rintro e w3 ⟨rfl, hb3⟩
  have HG3 := Lib.hid (HG2.out.below hb3 HG2.out.2.2)
  have HB3 := Lib.hid (HB2.out.trans (hb3.mono HB2.out.size))
  clear hb3
  go_wp2_with fail
  refine (HO _ HG3.out).out.mono ?_
  rintro e w4 ⟨rfl, hb4⟩
  have HB4 := Lib.hid (HB3.out.trans (hb4.mono HB3.out.size))
  clear hb4
  go_wp2_with fail
  refine (HL _).out.mono ?_
  rintro e w5 ⟨g, rfl, hc, hg, hb5⟩
  have HB5 := Lib.hid (HB4.out.trans (hb5.mono HB4.out.size))
  clear hb5
  go_wp2
  go_ret
  exact ⟨rfl, HB5.out⟩

/-! ### The first six hundred bytes -/
def cut6 (s : ByteArray) : ByteArray := s.extract 0 (min s.size 600)
theorem cut6_size (s : ByteArray) : (cut6 s).size ≤ 600 := by
  unfold cut6
  rw [ByteArray.size_extract]
  omega
set_option maxRecDepth 100000 in
theorem cut_c (s : ByteArray) (hs : s.size ≤ maxLen) (w : World) :
    Calls Tryd.prog 11 #[.string s] w fun e W' => e = .returned (.string (cut6 s)) ∧ w = W' := by
  unfold maxLen at hs
  unfold cut6
  have e : min s.size 600 = (min (s.size : Int) 600).toNat := by omega
  have HE := Lib.hid e
  clear e
  go_enter Tryd.func11, Tryd.ntmps11
  go_wp2
  go_ret
  exact ⟨by rw [HE.out]; rfl, rfl⟩
end Go.Proofs.YtaahhilnkffdlaaDoor
