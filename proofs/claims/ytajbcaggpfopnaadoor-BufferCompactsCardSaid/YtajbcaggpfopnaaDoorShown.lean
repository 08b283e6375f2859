/- Is a splice known: it is. -/
import Derived.Test.YtajbcaggpfopnaaDoorRef
import Derived.Outline
namespace Go.Proofs.YtajbcaggpfopnaaDoor
open Go Go.RowKit

/-- A new buffer's making, then a splice of it, is all above the entry. -/
theorem below_grown {w w1 w2 : World} {B : Nat} (h : Below w.heap.size w w1) (hg : w1.grownBy w2 (some B)) (hB : w.heap.size ≤ B) : Below w.heap.size w w2 :=
  h.grown hg h.size (fun k e => by cases e; exact hB)
theorem sent_grown {n₀ : Nat} {w w' : World} {aF aN aR : Addr} {B : Nat} (h : Sent n₀ w aF aN aR) (hg : w.grownBy w' (some B)) (hn : n₀ ≤ w.heap.size) (hB : n₀ ≤ B) : Sent n₀ w' aF aN aR :=
  h.below ((Below.refl n₀ w).grown hg hn (fun k e => by cases e; exact hB)) (Nat.le_refl _)

set_option maxHeartbeats 4000000 in
set_option maxRecDepth 100000 in
theorem shown_true (n₀ : Nat) (aF aN aR : Addr) (w : World) (hS : Sent n₀ w aF aN aR) (hn : n₀ ≤ w.heap.size) :
    Calls Tryd.prog 10 #[] w fun e W' => e = .returned (.bool true) ∧ Below w.heap.size w W' := by
  have HS := Lib.hid hS
  clear hS
  go_enter Tryd.func10, Tryd.ntmps10
  go_wp2_with fail
  refine (new_ok _ _ (by decide)).mono ?_
  rintro e w1 ⟨B, rfl, lb1, xs1, hB1, ht1, hl1, hb1, hBw, hlb1⟩
  have HS1 := Lib.hid (HS.out.below hb1 hn)
  have hs1 := hb1.size
  have H1 := Lib.hid hB1
  have T1 := Lib.hid ht1
  have HB1 := Lib.hid hb1
  clear hB1 ht1 hb1 hlb1 hl1
  go_wp2_with fail
  refine (bsplice n₀ aF aN aR _ HS1.out (by omega) B lb1 xs1 H1.out 2 3 _).mono ?_
  rw [T1.out]
  rintro e w2 ⟨he, lb2, xs2, hB2, ht2, hl2, hg2, hlb2⟩
  obtain rfl : e = .returned (.int .i64 0) := he.trans (by rfl)
  clear he
  have hb2 := below_grown HB1.out hg2 hBw
  have hs2 := hb2.size
  have HS2 := Lib.hid (HS.out.below hb2 hn)
  have H2 := Lib.hid hB2
  have ht2' : text xs2 = [97, 98, 120, 121, 102] := by rw [ht2, T1.out]; rfl
  have T2 := Lib.hid ht2'
  have HB2 := Lib.hid hb2
  clear hB2 ht2 ht2' hb2 hlb2 hl2 hg2
  go_wp2_with fail
  refine (bread n₀ aF aN aR _ HS2.out (by omega) B lb2 xs2 H2.out 1 3).mono ?_
  rw [T2.out]
  rintro e w3 ⟨he, hb3⟩
  obtain rfl : e = .returned (.tuple #[.string ⟨#[98, 120, 121]⟩, .int .i64 0]) := he.trans (by rfl)
  clear he
  have hb3' := HB2.out.trans (hb3.mono hs2)
  have hs3 := hb3'.size
  have H3 := Lib.hid (H2.out.below hb3)
  have HS3 := Lib.hid (HS.out.below hb3' hn)
  have HB3 := Lib.hid hb3'
  clear hb3 hb3'
  go_wp2_with fail
  refine (bsplice n₀ aF aN aR _ HS3.out (by omega) B lb2 xs2 H3.out 6 0 _).mono ?_
  rw [T2.out]
  rintro e w4 ⟨he, lb4, xs4, hB4, ht4, hl4, hg4, hlb4⟩
  obtain rfl : e = .returned (.int .i64 10) := he.trans (by rfl)
  clear he
  have hb4 := below_grown HB3.out hg4 hBw
  have hs4 := hb4.size
  have H4 := Lib.hid hB4
  have ht4' : text xs4 = [97, 98, 120, 121, 102] := by rw [ht4, T2.out]; rfl
  have T4 := Lib.hid ht4'
  have HB4 := Lib.hid hb4
  clear hB4 ht4 ht4' hb4 hlb4 hl4 hg4
  go_wp2_with fail
  refine (btext _ B lb4 xs4 H4.out).mono ?_
  rw [T4.out]
  rintro e w5 ⟨rfl, hb5⟩
  have hb5' := HB4.out.trans (hb5.mono hs4)
  have hs5 := hb5'.size
  have H5 := Lib.hid (H4.out.below hb5)
  have HB5 := Lib.hid hb5'
  clear hb5 hb5'
  go_wp2_with fail
  refine (blen _ B lb4 xs4 H5.out).mono ?_
  rw [T4.out]
  rintro e w6 ⟨rfl, hb6⟩
  have hb6' := HB5.out.trans (hb6.mono hs5)
  have hs6 := hb6'.size
  have H6 := Lib.hid (H5.out.below hb6)
  have HB6 := Lib.hid hb6'
  clear hb6 hb6'
  go_wp2_with fail
  have hp : ∃ p : Nat, xs4.length = p + 1 := by
    cases xs4 with
    | nil => have := T4.out; simp [text] at this
    | cons x l => exact ⟨l.length, rfl⟩
  obtain ⟨p, hp⟩ := hp
  have hp2 : p ≤ 4000 := by have := H4.out.len.2; omega
  refine (bpieces _ B lb4 xs4 H6.out).mono ?_
  rw [hp]
  rintro e w7 ⟨rfl, rfl⟩
  clear hp
  go_wp2
  go_ret
  exact ⟨congrArg (fun b => Ending.returned (Value.bool b)) (decide_eq_true (by omega : (1 : Int) ≤ (p : Int) + 1)), HB6.out⟩
end Go.Proofs.YtajbcaggpfopnaaDoor
