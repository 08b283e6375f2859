/- The statement GlyphBack, walked. -/
import Derived.Test.YtldffmnmofmkaaaDoorGlUse
import Derived.Test.YtldffmnmofmkaaaDoorGlTurn
namespace Go.Proofs.YtldffmnmofmkaaaDoor
open Go Go.RowKit

theorem take_byte (x : ByteArray) (k : Nat) (h : k < x.size) : x.data.toList.take (k + 1) = x.data.toList.take k ++ [x[k]] := by
  have hl : k < x.data.toList.length := by rw [← Lib.size_eq]; exact h
  rw [List.take_succ_eq_append_getElem hl]
  rfl

set_option maxHeartbeats 4000000 in
set_option maxRecDepth 100000 in
theorem back_true (w : World) (hG : Ground w) (s : ByteArray) (hs : s.size ≤ maxLen) :
    Calls Tryd.prog 5 #[.string s] w fun e W' => e = .returned (.bool true) ∧ Below w.heap.size w W' := by
  have HC := fun w => Lib.hid (cut_c s hs w)
  have hxs := cut3_size s
  rw [← cutl_bs] at HC hxs
  obtain ⟨X, hX⟩ : ∃ X, X = cutl s := ⟨_, rfl⟩
  have hX3 : X.length ≤ 300 := by rw [hX]; exact cutl_len s
  rw [← hX] at HC hxs
  clear hX
  have HS := fun w h => Lib.hid (shown_c w h)
  have hgl : (turn gl X 0).length ≤ 900 := by have := turn_len gl gl_len X.length X (Nat.le_refl _); omega
  have htl := turn_short X.length X (Nat.le_refl _)
  have g1 := fun w h => glyphs_c X (by omega) w h
  have g2 := fun w h => glyphs_c (turn ty X 0) (by omega) w h
  have g3 := fun w h => glyphs_c (turn gl X 0) (by omega) w h
  have a1 := fun w h => ascii_c X (by omega) w h
  rw [back_ty] at g2
  rw [back_gl] at g3
  have hpl : 96 ∉ X → bs (turn gl X 0) = bs X := fun h => by rw [turn_plain X.length X (Nat.le_refl _) h]
  obtain ⟨x, hx⟩ : ∃ x, x = bs X := ⟨_, rfl⟩
  obtain ⟨gx, hgx⟩ : ∃ x, x = bs (turn gl X 0) := ⟨_, rfl⟩
  obtain ⟨ax, hax⟩ : ∃ x, x = bs (turn ty X 0) := ⟨_, rfl⟩
  have hxl : x.data.toList = X := by rw [hx, bs_list]
  have has : (ax.size : Int) ≤ (x.size : Int) := by rw [hx, hax, bs_size, bs_size]; omega
  have has2 : ax.size ≤ 300 := by rw [hax, bs_size]; omega
  rw [← hx] at HC g1 a1 hpl hxs
  rw [← hgx] at g1 g2 g3 hpl
  rw [← hax] at g2 a1
  have G1 := fun w h => Lib.hid (g1 w h)
  have G2 := fun w h => Lib.hid (g2 w h)
  have G3 := fun w h => Lib.hid (g3 w h)
  have A1 := fun w h => Lib.hid (a1 w h)
  have HP := Lib.hid hpl
  have HX := Lib.hid hxl
  have HG := Lib.hid hG
  clear hG hx hgx hax g1 g2 g3 a1 hpl hxl hgl htl hX3
  go_enter Tryd.func5, Tryd.ntmps5
  go_wp2_with fail
  refine (HS _ HG.out).out.mono ?_
  rintro e w1 ⟨rfl, hb1⟩
  have HG1 := Lib.hid (HG.out.below hb1)
  have HB1 := Lib.hid hb1
  clear hb1
  go_wp2_with fail
  refine (HC _).out.mono ?_
  rintro e w' ⟨rfl, rfl⟩
  go_wp2
  go_loopw [4, 5] (fun u i wr => ∃ (k : Nat) (q : Bool), k ≤ x.size ∧ i = .int .i64 k ∧ u = .bool q ∧ (q = true ↔ 96 ∉ X.take k) ∧ wr = w1)
    (fun _ i _ => x.size - (intOf i).toNat)
  case atStart => exact ⟨0, true, Nat.zero_le _, rfl, rfl, by simp, rfl⟩
  case round =>
    obtain ⟨k, q, hk, rfl, rfl, hq, rfl⟩ := hrel
    have HQ := Lib.hid hq
    clear hq
    by_cases hlt : k < x.size
    · have HT : Hid (X.take (k + 1) = X.take k ++ [x[k]]) := Lib.hid (by rw [← HX.out]; exact take_byte x k hlt)
      cases q with
      | false =>
        go_wp2
        go_roundw
        case rel => exact ⟨k + 1, false, by omega, by go_num, rfl, by
          have hn : ¬ (96 ∉ X.take k) := fun h => by have := HQ.out.2 h; cases this
          rw [HT.out]
          have hm : 96 ∈ X.take k := Classical.byContradiction hn
          exact ⟨fun h => (by cases h), fun h => absurd (List.mem_append_left _ hm) h⟩, trivial⟩
        case measure => simp [intOf]; omega
      | true =>
        by_cases h96 : x[k] = 96
        · have t96 : ((x[k].toNat : Int) != 96) = false := by rw [h96]; rfl
          go_wp2
          go_roundw
          case rel => exact ⟨k + 1, false, by omega, by go_num, rfl, by rw [HT.out, h96]; simp, trivial⟩
          case measure => simp [intOf]; omega
        · have t96 : ((x[k].toNat : Int) != 96) = true := bne_iff_ne.2 (fun e => h96 (UInt8.toNat_inj.1 (by show x[k].toNat = 96; omega)))
          go_wp2
          go_roundw
          case rel => exact ⟨k + 1, true, by omega, by go_num, rfl, by
            have hn := HQ.out.1 rfl
            rw [HT.out]
            simp only [List.mem_append, List.mem_singleton, not_or]
            exact ⟨fun _ => ⟨hn, fun e => h96 e.symm⟩, fun _ => trivial⟩, trivial⟩
          case measure => simp [intOf]; omega
    · obtain rfl : k = x.size := by omega
      have hall : X.take x.size = X := List.take_of_length_le (by rw [← HX.out, ← Lib.size_eq]; exact Nat.le_refl _)
      have HQ2 : Hid (q = true ↔ 96 ∉ X) := Lib.hid (by rw [← hall]; exact HQ.out)
      clear hall
      cases q with
      | false =>
        go_wp2_with fail
        refine (G1 _ HG1.out).out.mono ?_
        rintro e w2 ⟨rfl, hb2⟩
        have HG2 := Lib.hid (HG1.out.below hb2)
        have HB2 := Lib.hid (HB1.out.trans (hb2.mono HB1.out.size))
        clear hb2
        go_wp2_with fail
        refine (A1 _ HG2.out).out.mono ?_
        rintro e w3 ⟨rfl, hb3⟩
        have HG3 := Lib.hid (HG2.out.below hb3)
        have HB3 := Lib.hid (HB2.out.trans (hb3.mono HB2.out.size))
        clear hb3
        go_wp2_with fail
        refine (G2 _ HG3.out).out.mono ?_
        rintro e w4 ⟨rfl, hb4⟩
        have HG4 := Lib.hid (HG3.out.below hb4)
        have HB4 := Lib.hid (HB3.out.trans (hb4.mono HB3.out.size))
        clear hb4
        go_wp2_with fail
        refine (G3 _ HG4.out).out.mono ?_
        rintro e w5 ⟨rfl, hb5⟩
        have HG5 := Lib.hid (HG4.out.below hb5)
        have HB5 := Lib.hid (HB4.out.trans (hb5.mono HB4.out.size))
        clear hb5
        go_wp2_with fail
        refine (A1 _ HG5.out).out.mono ?_
        rintro e w6 ⟨rfl, hb6⟩
        have HB6 := Lib.hid (HB5.out.trans (hb6.mono HB5.out.size))
        clear hb6
        go_wp2
        go_ret
        exact ⟨rfl, HB6.out⟩
      | true =>
        have hgx : gx = x := HP.out (HQ2.out.1 rfl)
        subst hgx
        go_wp2_with fail
        refine (G1 _ HG1.out).out.mono ?_
        rintro e w2 ⟨rfl, hb2⟩
        have HG2 := Lib.hid (HG1.out.below hb2)
        have HB2 := Lib.hid (HB1.out.trans (hb2.mono HB1.out.size))
        clear hb2
        go_wp2_with fail
        refine (A1 _ HG2.out).out.mono ?_
        rintro e w3 ⟨rfl, hb3⟩
        have HG3 := Lib.hid (HG2.out.below hb3)
        have HB3 := Lib.hid (HB2.out.trans (hb3.mono HB2.out.size))
        clear hb3
        go_wp2_with fail
        refine (G2 _ HG3.out).out.mono ?_
        rintro e w4 ⟨rfl, hb4⟩
        have HG4 := Lib.hid (HG3.out.below hb4)
        have HB4 := Lib.hid (HB3.out.trans (hb4.mono HB3.out.size))
        clear hb4
        go_wp2_with fail
        refine (G3 _ HG4.out).out.mono ?_
        rintro e w5 ⟨rfl, hb5⟩
        have HG5 := Lib.hid (HG4.out.below hb5)
        have HB5 := Lib.hid (HB4.out.trans (hb5.mono HB4.out.size))
        clear hb5
        go_wp2_with fail
        refine (A1 _ HG5.out).out.mono ?_
        rintro e w6 ⟨rfl, hb6⟩
        have HB6 := Lib.hid (HB5.out.trans (hb6.mono HB5.out.size))
        clear hb6
        go_wp2
        go_ret
        exact ⟨rfl, HB6.out⟩
end Go.Proofs.YtldffmnmofmkaaaDoor
