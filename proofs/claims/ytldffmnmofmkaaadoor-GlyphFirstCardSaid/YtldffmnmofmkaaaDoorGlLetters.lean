/- The statement GlyphLetters, walked. -/
import Derived.Test.YtldffmnmofmkaaaDoorGlUse
import Derived.Test.YtldffmnmofmkaaaDoorGlTurn
import Derived.BigQuiet
namespace Go.Proofs.YtldffmnmofmkaaaDoor
open Go Go.RowKit

theorem below_drewN {B : Nat} {a w : World} (h : Below B a w) (n : Nat) : Below B a (w.drewN n) := h.trans ⟨rfl, rfl, rfl, Nat.le_refl _, fun _ _ => rfl⟩
theorem dig_gl : ∀ k, k < 38 → dig (gl k) = di k := by decide +kernel
theorem cls_gl : ∀ k, k < 38 → cls (gl k) = cl k := by decide +kernel
theorem gl_one : ∀ i, i < 38 → ∀ k, k < 38 → gl i = gl k → i = k := by decide +kernel
theorem di_one : ∀ i, i < 38 → ∀ k, k < 38 → di i = di k → di i = [] ∨ i = k := by decide +kernel
theorem digraph_g (k : Nat) (hk : k < 38) (w : World) (hG : Ground w) :
    Calls Tryd.prog 11 #[.string (bs (gl k))] w fun e W' => e = .returned (.tuple #[.string (bs (di k)), .bool !(di k).isEmpty]) ∧ Below w.heap.size w W' := by
  have := digraph_c (gl k) w hG
  rw [dig_gl k hk] at this
  exact this

set_option maxHeartbeats 8000000 in
set_option maxRecDepth 100000 in
theorem letters_true (w : World) (hG : Ground w) (i k : Int) :
    Calls Tryd.prog 8 #[.int .i64 i, .int .i64 k] w fun e W' => e = .returned (.bool true) ∧ Below w.heap.size w W' := by
  have HS := fun w h => Lib.hid (shown_c w h)
  have HAl := fun w h => Lib.hid (all_c w h)
  have HG := Lib.hid hG
  clear hG
  go_enter Tryd.func8, Tryd.ntmps8
  go_wp2_with fail
  refine (HS _ HG.out).out.mono ?_
  rintro e w1 ⟨rfl, hb1⟩
  have HG1 := Lib.hid (HG.out.below hb1)
  have HB1 := Lib.hid hb1
  clear hb1
  go_wp2_with fail
  refine (HAl _ HG1.out).out.mono ?_
  rintro e w2 ⟨rfl, hc2, hl2, hb2⟩
  have HG2 := Lib.hid (HG1.out.below hb2)
  have HB2 := Lib.hid (HB1.out.trans (hb2.mono HB1.out.size))
  have HC2 := Lib.hid hc2
  have HL2 := Lib.hid hl2
  obtain ⟨b, hb⟩ : ∃ b, b = w1.heap.size := ⟨_, rfl⟩
  rw [← hb] at HC2 HL2 ⊢
  clear hb2 hc2 hl2 hb
  by_cases h1 : i < 0
  · go_wp2
    go_ret
    exact ⟨rfl, HB2.out⟩
  by_cases h2 : k < 0
  · go_wp2
    go_ret
    exact ⟨rfl, HB2.out⟩
  by_cases h3 : 38 ≤ i
  · go_wp2
    go_ret
    exact ⟨rfl, HB2.out⟩
  by_cases h4 : 38 ≤ k
  · go_wp2
    go_ret
    exact ⟨rfl, HB2.out⟩
  by_cases h5 : i = k
  · subst h5
    go_wp2
    go_ret
    exact ⟨rfl, HB2.out⟩
  obtain ⟨i, rfl⟩ : ∃ n : Nat, i = (n : Int) := ⟨i.toNat, by omega⟩
  obtain ⟨k, rfl⟩ : ∃ n : Nat, k = (n : Int) := ⟨k.toNat, by omega⟩
  have hi : i < 38 := by omega
  have hk : k < 38 := by omega
  have hne : i ≠ k := by omega
  have ci := HC2.out i hi
  have ck := HC2.out k hk
  have HDi := fun w h => Lib.hid (digraph_g i hi w h)
  have HDk := fun w h => Lib.hid (digraph_g k hk w h)
  have hgg : ((bs (gl i)).toList == (bs (gl k)).toList) = false := by rw [eqb_bs]; exact beq_eq_false_iff_ne.2 (fun e => hne (gl_one i hi k hk e))
  have hdd : (di i).isEmpty = false → ((bs (di i)).toList == (bs (di k)).toList) = false := fun h => by
    rw [eqb_bs]
    refine beq_eq_false_iff_ne.2 (fun e => ?_)
    rcases di_one i hi k hk e with e2 | e2
    · rw [e2] at h; cases h
    · exact hne e2
  obtain ⟨gi, hgi⟩ : ∃ g, g = bs (gl i) := ⟨_, rfl⟩
  obtain ⟨gk, hgk⟩ : ∃ g, g = bs (gl k) := ⟨_, rfl⟩
  obtain ⟨ai, hai⟩ : ∃ g, g = bs (di i) := ⟨_, rfl⟩
  obtain ⟨ak, hak⟩ : ∃ g, g = bs (di k) := ⟨_, rfl⟩
  obtain ⟨oi, hoi⟩ : ∃ g, g = (di i).isEmpty := ⟨_, rfl⟩
  obtain ⟨ok, hok⟩ : ∃ g, g = (di k).isEmpty := ⟨_, rfl⟩
  rw [← hgi] at ci HDi hgg
  rw [← hgk] at ck HDk hgg
  rw [← hai] at HDi hdd
  rw [← hak] at HDk hdd
  rw [← hoi] at HDi hdd
  rw [← hok] at HDk
  have hcond : (decide ((i : Int) < 0) || decide ((k : Int) < 0) || decide (38 ≤ (i : Int)) || decide (38 ≤ (k : Int)) || (i : Int) == (k : Int)) = false := by
    simp only [Bool.or_eq_false_iff, decide_eq_false_iff_not, beq_eq_false_iff_ne]
    omega
  have HDD := Lib.hid hdd
  clear hgi hgk hai hak hoi hok hdd
  go_wp2_with fail
  refine (HDi _ HG2.out).out.mono ?_
  rintro e w3 ⟨rfl, hb3⟩
  have HG3 := Lib.hid (HG2.out.below hb3)
  have HB3 := Lib.hid (HB2.out.trans (hb3.mono HB2.out.size))
  have ci3 : w3.cell? ⟨b, i, none⟩ = some (.string gi) := (hb3.cell (p := ⟨b, i, none⟩) HL2.out).trans ci
  have ck3 : w3.cell? ⟨b, k, none⟩ = some (.string gk) := (hb3.cell (p := ⟨b, k, none⟩) HL2.out).trans ck
  have hl3 : b < w3.heap.size := Nat.lt_of_lt_of_le HL2.out hb3.size
  clear hb3 ci ck
  go_wp2_with fail
  refine (HDk _ HG3.out).out.mono ?_
  rintro e w4 ⟨rfl, hb4⟩
  have HB4 := Lib.hid (HB3.out.trans (hb4.mono HB3.out.size))
  have ci4 : w4.cell? ⟨b, i, none⟩ = some (.string gi) := (hb4.cell (p := ⟨b, i, none⟩) hl3).trans ci3
  have ck4 : w4.cell? ⟨b, k, none⟩ = some (.string gk) := (hb4.cell (p := ⟨b, k, none⟩) hl3).trans ck3
  clear hb4 ci3 ck3 hl3
  cases oi with
  | true =>
    go_wp2
    go_quiet (fail)
    go_wp2
    go_ret
    exact ⟨rfl, below_drewN HB4.out _⟩
  | false =>
    have hdd := HDD.out rfl
    cases ok with
    | true =>
      go_wp2
      go_quiet (fail)
      go_wp2
      go_ret
      exact ⟨rfl, below_drewN HB4.out _⟩
    | false =>
      go_wp2
      go_quiet (fail)
      go_wp2
      go_ret
      exact ⟨rfl, below_drewN HB4.out _⟩
end Go.Proofs.YtldffmnmofmkaaaDoor
