/- The statement GlyphParts, walked. -/
import Derived.Test.YtldffmnmofmkaaaDoorGlUse
import Derived.Test.YtldffmnmofmkaaaDoorGlTurn
namespace Go.Proofs.YtldffmnmofmkaaaDoor
open Go Go.RowKit

theorem bs_app (a b : List UInt8) : bs a ++ bs b = bs (a ++ b) := by
  apply ByteArray.ext
  apply Array.ext'
  rw [ByteArray.data_append, Array.toList_append]
  simp [bs]
theorem bs_blank (a b : List UInt8) : bs a ++ ⟨#[32]⟩ ++ bs b = bs (a ++ 32 :: b) := by
  have : (⟨#[32]⟩ : ByteArray) = bs [32] := rfl
  rw [this, bs_app, bs_app, List.append_assoc]
  rfl

set_option maxHeartbeats 4000000 in
set_option maxRecDepth 100000 in
theorem parts_true (w : World) (hG : Ground w) (s : ByteArray) (hs : s.size ≤ maxLen) (t : ByteArray) (ht : t.size ≤ maxLen) :
    Calls Tryd.prog 7 #[.string s, .string t] w fun e W' => e = .returned (.bool true) ∧ Below w.heap.size w W' := by
  have HC := fun w => Lib.hid (cut_c s hs w)
  have HD := fun w => Lib.hid (cut_c t ht w)
  rw [← cutl_bs] at HC HD
  obtain ⟨S, hS⟩ : ∃ S, S = cutl s := ⟨_, rfl⟩
  obtain ⟨T, hT⟩ : ∃ T, T = cutl t := ⟨_, rfl⟩
  have hS3 : S.length ≤ 300 := by rw [hS]; exact cutl_len s
  have hT3 : T.length ≤ 300 := by rw [hT]; exact cutl_len t
  rw [← hS] at HC
  rw [← hT] at HD
  have HS := fun w h => Lib.hid (shown_c w h)
  have g1 := fun w h => glyphs_c S (by omega) w h
  have g2 := fun w h => glyphs_c T (by omega) w h
  have g3 := fun w h => glyphs_c (S ++ 32 :: T) (by simp; omega) w h
  have a1 := fun w h => ascii_c S (by omega) w h
  have a2 := fun w h => ascii_c T (by omega) w h
  have a3 := fun w h => ascii_c (S ++ 32 :: T) (by simp; omega) w h
  have hl1 : (bs (turn gl S 0)).size ≤ 900 := by rw [bs_size]; have := turn_len gl gl_len S.length S (Nat.le_refl _); omega
  have hl2 : (bs (turn gl T 0)).size ≤ 900 := by rw [bs_size]; have := turn_len gl gl_len T.length T (Nat.le_refl _); omega
  have hl3 : (bs (turn ty S 0)).size ≤ 900 := by rw [bs_size]; have := turn_len ty ty_len S.length S (Nat.le_refl _); omega
  have hl4 : (bs (turn ty T 0)).size ≤ 900 := by rw [bs_size]; have := turn_len ty ty_len T.length T (Nat.le_refl _); omega
  rw [← bs_size] at hS3 hT3
  rw [turn_cut gl T S.length S (Nat.le_refl _), ← bs_blank, ← bs_blank] at g3
  rw [turn_cut ty T S.length S (Nat.le_refl _), ← bs_blank, ← bs_blank] at a3
  obtain ⟨x, hx⟩ : ∃ x, x = bs S := ⟨_, rfl⟩
  obtain ⟨y, hy⟩ : ∃ y, y = bs T := ⟨_, rfl⟩
  obtain ⟨gx, hgx⟩ : ∃ x, x = bs (turn gl S 0) := ⟨_, rfl⟩
  obtain ⟨gy, hgy⟩ : ∃ x, x = bs (turn gl T 0) := ⟨_, rfl⟩
  obtain ⟨ax, hax⟩ : ∃ x, x = bs (turn ty S 0) := ⟨_, rfl⟩
  obtain ⟨ay, hay⟩ : ∃ x, x = bs (turn ty T 0) := ⟨_, rfl⟩
  rw [← hx] at HC g1 g3 a1 a3 hS3
  rw [← hy] at HD g2 g3 a2 a3 hT3
  rw [← hgx] at g1 g3 hl1
  rw [← hgy] at g2 g3 hl2
  rw [← hax] at a1 a3 hl3
  rw [← hay] at a2 a3 hl4
  have G1 := fun w h => Lib.hid (g1 w h)
  have G2 := fun w h => Lib.hid (g2 w h)
  have G3 := fun w h => Lib.hid (g3 w h)
  have A1 := fun w h => Lib.hid (a1 w h)
  have A2 := fun w h => Lib.hid (a2 w h)
  have A3 := fun w h => Lib.hid (a3 w h)
  have HG := Lib.hid hG
  clear hG hx hy hgx hgy hax hay g1 g2 g3 a1 a2 a3 hS hT
  go_enter Tryd.func7, Tryd.ntmps7
  go_wp2_with fail
  refine (HS _ HG.out).out.mono ?_
  rintro e w1 ⟨rfl, hb1⟩
  have HG1 := Lib.hid (HG.out.below hb1)
  have HB1 := Lib.hid hb1
  clear hb1
  go_wp2_with fail
  refine (HC _).out.mono ?_
  rintro e w' ⟨rfl, rfl⟩
  go_wp2_with fail
  refine (HD _).out.mono ?_
  rintro e w' ⟨rfl, rfl⟩
  go_wp2_with fail
  refine (G3 _ HG1.out).out.mono ?_
  rintro e w2 ⟨rfl, hb2⟩
  have HG2 := Lib.hid (HG1.out.below hb2)
  have HB2 := Lib.hid (HB1.out.trans (hb2.mono HB1.out.size))
  clear hb2
  go_wp2_with fail
  refine (G1 _ HG2.out).out.mono ?_
  rintro e w3 ⟨rfl, hb3⟩
  have HG3 := Lib.hid (HG2.out.below hb3)
  have HB3 := Lib.hid (HB2.out.trans (hb3.mono HB2.out.size))
  clear hb3
  go_wp2_with fail
  refine (G2 _ HG3.out).out.mono ?_
  rintro e w4 ⟨rfl, hb4⟩
  have HG4 := Lib.hid (HG3.out.below hb4)
  have HB4 := Lib.hid (HB3.out.trans (hb4.mono HB3.out.size))
  clear hb4
  go_wp2_with fail
  refine (A3 _ HG4.out).out.mono ?_
  rintro e w5 ⟨rfl, hb5⟩
  have HG5 := Lib.hid (HG4.out.below hb5)
  have HB5 := Lib.hid (HB4.out.trans (hb5.mono HB4.out.size))
  clear hb5
  go_wp2_with fail
  refine (A1 _ HG5.out).out.mono ?_
  rintro e w6 ⟨rfl, hb6⟩
  have HG6 := Lib.hid (HG5.out.below hb6)
  have HB6 := Lib.hid (HB5.out.trans (hb6.mono HB5.out.size))
  clear hb6
  go_wp2_with fail
  refine (A2 _ HG6.out).out.mono ?_
  rintro e w7 ⟨rfl, hb7⟩
  have HB7 := Lib.hid (HB6.out.trans (hb7.mono HB6.out.size))
  clear hb7
  go_wp2
  go_ret
  exact ⟨rfl, HB7.out⟩
end Go.Proofs.YtldffmnmofmkaaaDoor
