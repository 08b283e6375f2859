/- What the laws share: the known glyphs, and a text's first three hundred bytes. -/
import Derived.Test.YtldffmnmofmkaaaDoorGlCalls
import Derived.Test.YtldffmnmofmkaaaDoorGlAll
import Derived.Test.YtldffmnmofmkaaaDoorGlDig
namespace Go.Proofs.YtldffmnmofmkaaaDoor
open Go Go.RowKit

theorem Ground.next {W W' : World} {n : Nat} (h : Ground W) (hn : W.heap.size ≤ n) (hb : Below n W W') : Ground W' := h.below (hb.mono hn)

set_option maxHeartbeats 2000000 in
set_option maxRecDepth 100000 in
/-- shown(): glyphs are known. -/
theorem shown_c (w : World) (hG : Ground w) :
    Calls Tryd.prog 9 #[] w fun e W' => e = .returned (.bool true) ∧ Below w.heap.size w W' := by
  have HA := fun (w : World) (h : Ground w) => Lib.hid ((First_c [96, 114, 53] w h).mono (R' := fun e W' => e = .returned (.tuple #[.string ⟨#[226, 141, 180]⟩, .int .i64 2]) ∧ Below w.heap.size w W') (by rintro e w' ⟨rfl, hb⟩; exact ⟨by rw [show firstK [96, 114, 53] = some 16 by decide +kernel, show fsz [96, 114, 53] = 2 by decide +kernel]; rfl, hb⟩))
  have HD := fun (w : World) (h : Ground w) => Lib.hid ((digraph_c [226, 141, 179] w h).mono (R' := fun e W' => e = .returned (.tuple #[.string ⟨#[96, 105]⟩, .bool true]) ∧ Below w.heap.size w W') (by rintro e w' ⟨rfl, hb⟩; exact ⟨by rw [show dig [226, 141, 179] = [96, 105] by decide +kernel]; rfl, hb⟩))
  have HGl := fun (w : World) (h : Ground w) => Lib.hid ((glyphs_c [96, 114, 53] (by decide) w h).mono (R' := fun e W' => e = .returned (.string ⟨#[226, 141, 180, 53]⟩) ∧ Below w.heap.size w W') (by rintro e w' ⟨rfl, hb⟩; exact ⟨by rw [show turn gl [96, 114, 53] 0 = [226, 141, 180, 53] by decide +kernel]; rfl, hb⟩))
  have HAs := fun (w : World) (h : Ground w) => Lib.hid ((ascii_c [226, 141, 180, 53] (by decide) w h).mono (R' := fun e W' => e = .returned (.string ⟨#[96, 114, 53]⟩) ∧ Below w.heap.size w W') (by rintro e w' ⟨rfl, hb⟩; exact ⟨by rw [show turn ty [226, 141, 180, 53] 0 = [96, 114, 53] by decide +kernel]; rfl, hb⟩))
  have HC := fun (w : World) (h : Ground w) => Lib.hid ((class_c [194, 168] w h).mono (R' := fun e W' => e = .returned (.int .i64 2) ∧ Below w.heap.size w W') (by rintro e w' ⟨rfl, hb⟩; exact ⟨by rw [show cls [194, 168] = 2 by decide +kernel]; rfl, hb⟩))
  have HG := Lib.hid hG
  clear hG
  go_enter Tryd.func9, Tryd.ntmps9
  go_wp2_with fail
  refine (HA _ HG.out).out.mono ?_
  rintro e w1 ⟨rfl, hb1⟩
  have HG1 := Lib.hid (HG.out.below hb1)
  have HB1 := Lib.hid hb1
  clear hb1
  go_wp2_with fail
  refine (HD _ HG1.out).out.mono ?_
  rintro e w2 ⟨rfl, hb2⟩
  have HG2 := Lib.hid (HG1.out.below hb2)
  have HB2 := Lib.hid (HB1.out.trans (hb2.mono HB1.out.size))
  clear hb2
  go_wp2_with fail
  refine (HGl _ HG2.out).out.mono ?_
  rintro e w3 ⟨rfl, hb3⟩
  have HG3 := Lib.hid (HG2.out.below hb3)
  have HB3 := Lib.hid (HB2.out.trans (hb3.mono HB2.out.size))
  clear hb3
  go_wp2_with fail
  refine (HAs _ HG3.out).out.mono ?_
  rintro e w4 ⟨rfl, hb4⟩
  have HG4 := Lib.hid (HG3.out.below hb4)
  have HB4 := Lib.hid (HB3.out.trans (hb4.mono HB3.out.size))
  clear hb4
  go_wp2_with fail
  refine (HC _ HG4.out).out.mono ?_
  rintro e w5 ⟨rfl, hb5⟩
  have HG5 := Lib.hid (HG4.out.below hb5)
  have HB5 := Lib.hid (HB4.out.trans (hb5.mono HB4.out.size))
  clear hb5
  go_wp2_with fail
  refine (all_c _ HG5.out).mono ?_
  rintro e w6 ⟨rfl, _, _, hb6⟩
  have HB6 := Lib.hid (HB5.out.trans (hb6.mono HB5.out.size))
  clear hb6
  go_wp2
  go_ret
  exact ⟨rfl, HB6.out⟩

/-! ### The first three hundred bytes -/
def cut3 (s : ByteArray) : ByteArray := s.extract 0 (min s.size 300)
theorem cut3_size (s : ByteArray) : (cut3 s).size ≤ 300 := by
  unfold cut3
  rw [ByteArray.size_extract]
  omega
set_option maxRecDepth 100000 in
theorem cut_c (s : ByteArray) (hs : s.size ≤ maxLen) (w : World) :
    Calls Tryd.prog 10 #[.string s] w fun e W' => e = .returned (.string (cut3 s)) ∧ w = W' := by
  unfold maxLen at hs
  unfold cut3
  have e : min s.size 300 = (min (s.size : Int) 300).toNat := by omega
  have HE := Lib.hid e
  clear e
  go_enter Tryd.func10, Tryd.ntmps10
  go_wp2
  go_ret
  exact ⟨by rw [HE.out]; rfl, rfl⟩
/-- The bytes of a text's first three hundred. -/
def cutl (s : ByteArray) : List UInt8 := (cut3 s).data.toList
theorem cutl_bs (s : ByteArray) : bs (cutl s) = cut3 s := bs_of _
theorem cutl_len (s : ByteArray) : (cutl s).length ≤ 300 := by
  unfold cutl
  rw [← Lib.size_eq]
  exact cut3_size s
end Go.Proofs.YtldffmnmofmkaaaDoor
