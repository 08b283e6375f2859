/- What the laws share: are a line's tokens known; a text cut. -/
import Derived.Test.YthnnjogkomhmfaaDoorLxFirst
import Derived.Test.YthnnjogkomhmfaaDoorLxPlain
import Derived.Test.YthnnjogkomhmfaaDoorLxAgain
namespace Go.Proofs.YthnnjogkomhmfaaDoor
open Go Go.RowKit Go.Shelf
attribute [local go_sem] Oper.semAt_some

def exLine : List UInt8 := [97, 226, 134, 144, 194, 175, 48, 55, 32, 226, 141, 157, 32, 120]
def exToks : List Tk := [⟨5, [97], []⟩, ⟨8, [226, 134, 144], [226, 134, 144]⟩, ⟨3, [194, 175, 48, 55], [194, 175, 55]⟩, ⟨1, [32], []⟩, ⟨2, [226, 141, 157, 32, 120], [226, 141, 157]⟩]
set_option maxRecDepth 100000 in
theorem ex_toks : toks st exLine 0 = exToks := by decide +kernel
theorem ex_small : Small exToks := by
  intro t ht
  simp [exToks] at ht
  rcases ht with rfl | rfl | rfl | rfl | rfl <;> simp
theorem ex_name : ((firstT [97, 49]).kind == 5 && (firstT [97, 49]).text == [97, 49]) = true := by decide +kernel

set_option maxRecDepth 100000 in
set_option maxHeartbeats 4000000 in
/-- shown(). -/
theorem shown_c (w : World) (hG : LG w) :
    Calls Tryd.prog 9 #[] w fun e W' => e = .returned (.bool true) ∧ Below w.heap.size w W' := by
  have hL := line_own exLine (by decide) w hG
  rw [ex_toks] at hL
  have HL : Hid (Calls Tryd.prog 18 #[.string ⟨#[97, 226, 134, 144, 194, 175, 48, 55, 32, 226, 141, 157, 32, 120]⟩] w fun e W' => ∃ v, e = .returned v ∧ OwnL W' (w.heap.size + 1) v exToks ∧ Below w.heap.size w W') := Lib.hid hL
  have HI : Hid (∀ W, LG W → Calls Tryd.prog 20 #[.string ⟨#[97, 49]⟩] W fun e W' => e = .returned (.bool true) ∧ Below W.heap.size W W') := Lib.hid (fun W h => (isName_c [97, 49] (by decide) W h).mono (fun e W' he => by rw [ex_name] at he; exact he))
  have HP : Hid (∀ v W, TL W v exToks → Calls Tryd.prog 14 #[v] W fun e W' => (∃ a0 c0, e = .returned (.slice a0 3 c0)) ∧ Below W.heap.size W W') := Lib.hid (fun v W h => (plain_c v exToks W h (by decide) ex_small).mono (fun e W' ⟨v', h1, h2, h3⟩ => by
    obtain ⟨a0, c0, h4, _⟩ := h2.form
    rw [h4] at h1
    exact ⟨⟨a0, c0, h1⟩, h3⟩))
  have HG := Lib.hid hG
  clear hL hG
  go_enter Tryd.func9, Tryd.ntmps9
  go_wp2_with fail
  refine HL.out.mono ?_
  rintro e w1 ⟨v, rfl, hv1, hb1⟩
  have hT1 := OwnL.tl (L := exToks) (by decide) hv1
  obtain ⟨g, cap, rfl, hg1, hg2⟩ := World.ownsRow.form hv1 (by decide)
  obtain ⟨g', o', c', hvv, _, hc⟩ := hT1.cells (by decide)
  obtain ⟨rfl, rfl⟩ : g = g' ∧ 0 = o' := by injection hvv with h1 h2 h3; injection h1 with h4; injection h4 with h5 h6; exact ⟨h5, h6⟩
  obtain ⟨ax0, ax1, ax2⟩ := hc 0 _ rfl
  obtain ⟨bx0, bx1, bx2⟩ := hc 1 _ rfl
  obtain ⟨dx0, dx1, dx2⟩ := hc 2 _ rfl
  obtain ⟨fx0, fx1, fx2⟩ := hc 4 _ rfl
  have a0 : w1.cell? ⟨g, 0, none⟩ = some (.int .i64 5) := ax0
  have a1 : w1.cell? ⟨g, 1, none⟩ = some (.string ⟨#[97]⟩) := ax1
  have a2 : w1.cell? ⟨g, 2, none⟩ = some (.string ⟨#[]⟩) := ax2
  have b0 : w1.cell? ⟨g, 3, none⟩ = some (.int .i64 8) := bx0
  have b1 : w1.cell? ⟨g, 4, none⟩ = some (.string ⟨#[226, 134, 144]⟩) := bx1
  have b2 : w1.cell? ⟨g, 5, none⟩ = some (.string ⟨#[226, 134, 144]⟩) := bx2
  have d0 : w1.cell? ⟨g, 6, none⟩ = some (.int .i64 3) := dx0
  have d1 : w1.cell? ⟨g, 7, none⟩ = some (.string ⟨#[194, 175, 48, 55]⟩) := dx1
  have d2 : w1.cell? ⟨g, 8, none⟩ = some (.string ⟨#[194, 175, 55]⟩) := dx2
  have f0 : w1.cell? ⟨g, 12, none⟩ = some (.int .i64 2) := fx0
  have f1 : w1.cell? ⟨g, 13, none⟩ = some (.string ⟨#[226, 141, 157, 32, 120]⟩) := fx1
  have f2 : w1.cell? ⟨g, 14, none⟩ = some (.string ⟨#[226, 141, 157]⟩) := fx2
  clear ax0 ax1 ax2 bx0 bx1 bx2 dx0 dx1 dx2 fx0 fx1 fx2
  have hlen : exToks.length = 5 := rfl
  have hcap : 5 ≤ cap := by
    obtain ⟨_, c0, h1, h2, _⟩ := hT1.form
    injection h1 with _ _ h3
    rw [hlen] at h2
    omega
  rw [hlen] at hT1 ⊢
  have HT1 := Lib.hid hT1
  have HB1 := Lib.hid hb1
  have HG1 := Lib.hid (HG.out.below hb1)
  clear hv1 hT1 hc hvv hb1 hlen
  go_wp2_with (first
    | (go_at_call 20; refine (HI.out _ HG1.out).mono ?_; rintro e w2 ⟨rfl, hb2⟩; have HB2 := Lib.hid hb2; clear hb2)
    | (go_at_call 14; refine (HP.out _ _ (HT1.out.below HB2.out)).mono ?_; rintro e w3 ⟨⟨a3, c3, rfl⟩, hb3⟩; have HB3 := Lib.hid hb3; clear hb3))
  go_ret
  exact ⟨rfl, HB1.out.trans ((HB2.out.trans (HB3.out.mono HB2.out.size)).mono HB1.out.size)⟩

/-- The first three hundred bytes. -/
def cutT (T : List UInt8) : List UInt8 := T.take 300
theorem cutT_len (T : List UInt8) : (cutT T).length ≤ 300 := by unfold cutT; rw [List.length_take]; omega
theorem cut_c (s : ByteArray) (hs : s.size ≤ maxLen) (w : World) :
    Calls Tryd.prog 17 #[.string s] w fun e W' => e = .returned (.string (bs (cutT s.data.toList))) ∧ W' = w := by
  have hx : s.extract 0 (min s.size 300) = bs (cutT s.data.toList) := by
    have h := ext_take s.data.toList (min s.size 300)
    rw [bs_of] at h
    rw [h]
    congr 1
    unfold cutT
    rw [Lib.size_eq, List.take_eq_take_iff]
    omega
  obtain ⟨R, hR⟩ : ∃ R, R = bs (cutT s.data.toList) := ⟨_, rfl⟩
  rw [← hR] at hx ⊢
  clear hR
  unfold maxLen at hs
  have hmin : (min (s.size : Int) 300).toNat = min s.size 300 := by omega
  have HX := Lib.hid (show s.extract 0 (min (s.size : Int) 300).toNat = R by rw [hmin]; exact hx)
  clear hx hmin
  go_enter Tryd.func17, Tryd.ntmps17
  go_wp2
  go_ret
  exact ⟨by rw [← HX.out]; rfl, rfl⟩
end Go.Proofs.YthnnjogkomhmfaaDoor
