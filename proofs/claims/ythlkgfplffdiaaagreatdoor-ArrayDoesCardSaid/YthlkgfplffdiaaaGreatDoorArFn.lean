/- The functions that go through pairs; glyphs' functions of one. -/
import Derived.Test.YthlkgfplffdiaaaGreatDoorArThru
import Derived.Test.YthlkgfplffdiaaaGreatDoorArA
namespace Go.Proofs.YthlkgfplffdiaaaGreatDoor.Ar
open Go Go.RowKit Go.Shelf
attribute [local go_sem] Oper.semAt_some

set_option maxRecDepth 100000 in
theorem fn1_ok (g : ByteArray) (p : Nat) (w : World) (hp : Row w p 9 #[.string g]) (hG : Nu.NG w) : FnOK w (.func (.func 72) #[] #[.pointer (some ⟨p, 0, none⟩)]) (fun _ _ => Nu.dyN (Nu.whichD g) 0 1) := by
  refine ⟨_, p, rfl, fun args W => enters_of Tryz.func72 (by kernel_rfl) rfl args W, fun W' hb x y _ _ => ?_⟩
  have HD := Lib.hid (Nu.dy_c g 0 1 (by decide) (by decide) W' (hG.below hb))
  obtain ⟨c0, -⟩ := row1 (hp.below hb hp.lt)
  obtain ⟨M, hM⟩ : ∃ M, M = Nu.dyN (Nu.whichD g) 0 1 := ⟨_, rfl⟩
  rw [← hM] at HD ⊢
  clear hp hG hb hM
  go_enter Tryz.func72, Tryz.ntmps72
  go_wp2_with (go_at_call 73; refine HD.out.mono ?_; rintro e w2 ⟨rfl, hb⟩; have HB := Lib.hid hb; clear hb)
  go_ret2
  exact ⟨rfl, HB.out⟩
set_option maxRecDepth 100000 in
theorem fn2_ok (g : ByteArray) (p : Nat) (w : World) (hp : Row w p 9 #[.string g]) (hG : Nu.NG w) : FnOK w (.func (.func 74) #[] #[.pointer (some ⟨p, 0, none⟩)]) (fun x y => Nu.dyN (Nu.whichD g) x y) := by
  refine ⟨_, p, rfl, fun args W => enters_of Tryz.func74 (by kernel_rfl) rfl args W, fun W' hb x y hx hy => ?_⟩
  have HD := Lib.hid (Nu.dy_c g x y hx hy W' (hG.below hb))
  obtain ⟨c0, -⟩ := row1 (hp.below hb hp.lt)
  obtain ⟨M, hM⟩ : ∃ M, M = Nu.dyN (Nu.whichD g) x y := ⟨_, rfl⟩
  dsimp only
  rw [← hM] at HD ⊢
  clear hp hG hb hM hx hy
  go_enter Tryz.func74, Tryz.ntmps74
  go_wp2_with (go_at_call 73; refine HD.out.mono ?_; rintro e w2 ⟨rfl, hb⟩; have HB := Lib.hid hb; clear hb)
  go_ret2
  exact ⟨rfl, HB.out⟩
set_option maxRecDepth 100000 in
theorem fn3_ok (g : ByteArray) (p : Nat) (w : World) (hp : Row w p 9 #[.string g]) (hG : Nu.NG w) : FnOK w (.func (.func 39) #[] #[.pointer (some ⟨p, 0, none⟩)]) (fun _ y => Nu.monN (Nu.whichM g) y) := by
  refine ⟨_, p, rfl, fun args W => enters_of Tryz.func39 (by kernel_rfl) rfl args W, fun W' hb x y _ hy => ?_⟩
  have HD := Lib.hid (Nu.mon_c g y hy W' (hG.below hb))
  obtain ⟨c0, -⟩ := row1 (hp.below hb hp.lt)
  obtain ⟨M, hM⟩ : ∃ M, M = Nu.monN (Nu.whichM g) y := ⟨_, rfl⟩
  dsimp only
  rw [← hM] at HD ⊢
  clear hp hG hb hM hy
  go_enter Tryz.func39, Tryz.ntmps39
  go_wp2_with (go_at_call 40; refine HD.out.mono ?_; rintro e w2 ⟨rfl, hb⟩; have HB := Lib.hid hb; clear hb)
  go_ret2
  exact ⟨rfl, HB.out⟩
/-- A pair's function of two. -/
def fnA (g : ByteArray) (a b : Ary) (x y : Int) : Int × Int := if a.runes = b.runes then Nu.dyN (Nu.whichD g) x y else Nu.dyN (Nu.whichD g) 0 1
set_option maxRecDepth 100000 in
theorem function_c (g : ByteArray) (a b : Ary) (sa ta : Option Addr) (sn tn sc tc : Nat) (w : World) : Calls Tryz.prog 50 #[pairV a b (.slice sa sn sc) (.slice ta tn tc), .string g] w fun e w' => e = .returned (.func (.func (if a.runes = b.runes then 74 else 72)) #[] #[.pointer (some ⟨w.heap.size + 1, 0, none⟩)]) ∧ w' = (w.alloc (.cells #[.bool a.list, .bool a.runes, .slice sa sn sc, .bool b.list, .bool b.runes, .slice ta tn tc] 57)).alloc (.cells #[.string g] 9) := by
  obtain ⟨aL, aR, aN⟩ := a
  obtain ⟨bL, bR, bN⟩ := b
  dsimp only
  cases aR <;> cases bR
  all_goals
    go_enter Tryz.func50, Tryz.ntmps50
    go_wp2
    go_ret
    exact ⟨rfl, rfl⟩
theorem fn_ok (g : ByteArray) (a b : Ary) (p : Nat) (w : World) (hp : Row w p 9 #[.string g]) (hG : Nu.NG w) : FnOK w (.func (.func (if a.runes = b.runes then 74 else 72)) #[] #[.pointer (some ⟨p, 0, none⟩)]) (fnA g a b) := by
  by_cases h : a.runes = b.runes
  · rw [if_pos h, show fnA g a b = fun x y => Nu.dyN (Nu.whichD g) x y from funext fun x => funext fun y => if_pos h]
    exact fn2_ok g p w hp hG
  · rw [if_neg h, show fnA g a b = fun _ _ => Nu.dyN (Nu.whichD g) 0 1 from funext fun x => funext fun y => if_neg h]
    exact fn1_ok g p w hp hG
theorem right_cnt {a : Ary} (h : rightA a = true) : a.n.length ≤ 200 ∧ (a.list = false → a.n.length = 1) := by
  obtain ⟨L, R, N⟩ := a
  simp only [rightA, cntA, Bool.and_eq_true] at h
  obtain ⟨h, -⟩ := h
  cases L
  · simp at h
    exact ⟨by rw [h]; decide, fun _ => h⟩
  · simp at h
    exact ⟨h, fun e => by cases e⟩
theorem lenP_le {a b : Ary} (ha : rightA a = true) (hb : rightA b = true) : lenP a b ≤ 200 := by
  unfold lenP
  split
  · exact (right_cnt ha).1
  · exact (right_cnt hb).1
end Go.Proofs.YthlkgfplffdiaaaGreatDoor.Ar
