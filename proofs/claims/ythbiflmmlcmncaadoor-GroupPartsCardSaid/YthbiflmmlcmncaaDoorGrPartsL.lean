/- The statement GroupParts, as a call. -/
import Derived.Test.YthbiflmmlcmncaaDoorGrMatches
import Derived.Test.YthbiflmmlcmncaaDoorGrIns
import Derived.Test.YthbiflmmlcmncaaDoorGrRSplit
import Derived.Test.YthbiflmmlcmncaaDoorGrRIn
namespace Go.Proofs.YthbiflmmlcmncaaDoor.Ti
open Go Go.RowKit Go.Shelf
attribute [local go_sem] Oper.semAt_some

set_option maxRecDepth 100000 in
set_option maxHeartbeats 8000000 in
theorem parts_true (w : World) (hG : EG w) (v : Value) (L : List Tk) (h : TL w v L) (x : ByteArray) (at_ : Int) (hat : -9223372036854775808 ≤ at_ ∧ at_ ≤ 9223372036854775807) :
    Calls Tryd.prog 4 #[v, .string x, .int .i64 at_] w fun e W' => e = .returned (.bool true) ∧ Below w.heap.size w W' := by
  obtain ⟨F, hF⟩ : ∃ F, F = fewL L := ⟨_, rfl⟩
  have hfl : F.length ≤ 60 := by rw [hF]; exact fewL_len L
  have hfo : ∀ t ∈ F, t.text.length ≤ 10000 ∧ t.glyph.length ≤ 10000 := by rw [hF]; exact fewL_ok L
  have hfew := few_tl w v L h
  rw [← hF] at hfew
  have hx : bs x.data.toList = x := bs_of x
  obtain ⟨PS, hPS⟩ : ∃ PS, PS = splitA F x.data.toList := ⟨_, rfl⟩
  obtain ⟨z, hz⟩ : ∃ z : Int, z = ((errA F : Nat) : Int) := ⟨_, rfl⟩
  obtain ⟨I, hI⟩ : ∃ I, I = (insideA F at_).1 := ⟨_, rfl⟩
  obtain ⟨y, hy⟩ : ∃ y : Int, y = (((insideA F at_).2 : Nat) : Int) := ⟨_, rfl⟩
  have hPl : PS.length ≤ 1000 := by rw [hPS]; have := splitA_len F x.data.toList; omega
  have HS1 : Hid (∀ W u, Below w.heap.size w W → TL W u F → Calls Tryd.prog 19 #[u, .string x] W fun e W' => ∃ v', e = .returned (.tuple #[v', .int .i64 z]) ∧ PL W' v' PS ∧ Below W.heap.size W W') := Lib.hid (fun W u hb ht => by
    have := gsplit_c W (hG.step hb) u F x.data.toList ht (by omega) hfo
    rw [hx, ← hPS, ← hz] at this
    exact this.mono fun e W' ⟨v', VS, h1, h2, h3, h4⟩ => ⟨v', h1, ⟨⟨_, VS, h3.len, h2, h3⟩⟩, h4⟩)
  have HS2 : Hid (∀ W u, TL W u F → Calls Tryd.prog 20 #[u, .string x] W fun e W' => ∃ v', e = .returned (.tuple #[v', .int .i64 z]) ∧ PL W' v' PS ∧ Below W.heap.size W W') := Lib.hid (fun W u ht => by
    have := rsplit_c W u F x.data.toList ht (by omega)
    rw [hx, ← hPS, ← hz] at this
    exact this.mono fun e W' ⟨v', VS, h1, h2, h3, h4⟩ => ⟨v', h1, ⟨⟨_, VS, h3.len, h2, h3⟩⟩, h4⟩)
  have HI1 : Hid (∀ W u, Below w.heap.size w W → TL W u F → Calls Tryd.prog 21 #[u, .int .i64 at_] W fun e W' => ∃ v', e = .returned (.tuple #[v', .int .i64 y]) ∧ TL W' v' I ∧ Below W.heap.size W W') := Lib.hid (fun W u hb ht => by
    have := ginside_c W (hG.step hb) u F at_ ht (by omega) hfo
    rw [← hI, ← hy] at this
    exact this)
  have HI2 : Hid (∀ W u, TL W u F → Calls Tryd.prog 22 #[u, .int .i64 at_] W fun e W' => ∃ v', e = .returned (.tuple #[v', .int .i64 y]) ∧ TL W' v' I ∧ Below W.heap.size W W') := Lib.hid (fun W u ht => by
    have := rinside_c W u F at_ ht (by omega) hat
    rw [← hI, ← hy] at this
    exact this)
  have HSH := Lib.hid (shown_c w hG)
  have HFEW := Lib.hid hfew
  obtain ⟨a9, c9, rfl, _, _⟩ := h.form
  have hzz : (z == z) = true := by simp
  have hyy : (y == y) = true := by simp
  clear h hfew hPS hz hI hy hx hF hG hat hfo
  go_enter Tryd.func4, Tryd.ntmps4
  go_wp2_with fail
  refine HSH.out.mono ?_
  rintro e w1 ⟨rfl, hb1⟩
  have B1 := Lib.hid hb1
  clear hb1
  go_wp2_with fail
  refine (HFEW.out _ B1.out).mono ?_
  rintro e w2 ⟨v2, rfl, hv2, hb2⟩
  have V2 := Lib.hid hv2
  have B2 := Lib.hid (B1.out.trans (hb2.mono B1.out.size))
  obtain ⟨a0, c0, rfl, hc1, hc2⟩ := hv2.form
  clear hv2 hb2
  go_wp2_with fail
  refine (HS1.out _ _ B2.out V2.out).mono ?_
  rintro e w3 ⟨m1, rfl, hm1, hb3⟩
  have V3 := Lib.hid (V2.out.below hb3)
  have B3 := Lib.hid (B2.out.trans (hb3.mono B2.out.size))
  have M3 := Lib.hid hm1
  clear hm1 hb3
  go_wp2_with fail
  refine (HS2.out _ _ V3.out).mono ?_
  rintro e w4 ⟨m2, rfl, hm2, hb4⟩
  have V4 := Lib.hid (V3.out.below hb4)
  have B4 := Lib.hid (B3.out.trans (hb4.mono B3.out.size))
  have M4 := Lib.hid (M3.out.below hb4)
  have N4 := Lib.hid hm2
  clear hm2 hb4
  go_wp2_with fail
  refine (HI1.out _ _ B4.out V4.out).mono ?_
  rintro e w5 ⟨d1, rfl, hd1, hb5⟩
  have V5 := Lib.hid (V4.out.below hb5)
  have B5 := Lib.hid (B4.out.trans (hb5.mono B4.out.size))
  have M5 := Lib.hid (M4.out.below hb5)
  have N5 := Lib.hid (N4.out.below hb5)
  have D5 := Lib.hid hd1
  clear hd1 hb5
  go_wp2_with fail
  refine (HI2.out _ _ V5.out).mono ?_
  rintro e w6 ⟨d2, rfl, hd2, hb6⟩
  have B6 := Lib.hid (B5.out.trans (hb6.mono B5.out.size))
  have M6 := Lib.hid (M5.out.below hb6)
  have N6 := Lib.hid (N5.out.below hb6)
  have D6 := Lib.hid (D5.out.below hb6)
  have E6 := Lib.hid hd2
  clear hd2 hb6
  go_wp2_with fail
  refine (parts_c m1 m2 PS w6 M6.out N6.out hPl).mono ?_
  rintro e w8 ⟨rfl, hb8⟩
  have HSA := rsame_c d1 d2 I I w8 (D6.out.below hb8) (E6.out.below hb8)
  rw [decide_eq_true rfl] at HSA
  have HSA := Lib.hid HSA
  have B8 := Lib.hid (B6.out.trans (hb8.mono B6.out.size))
  clear hb8
  go_wp2_with fail
  refine HSA.out.mono ?_
  rintro e w9 ⟨rfl, hb9⟩
  have B9 := Lib.hid (B8.out.trans (hb9.mono B8.out.size))
  clear hb9
  go_wp2_with fail
  go_ret
  exact ⟨rfl, B9.out⟩
end Go.Proofs.YthbiflmmlcmncaaDoor.Ti
