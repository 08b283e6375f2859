/- The pieces are made one. -/
import Derived.Test.YtajbcaggpfopnaaDoorSplice
import Derived.Outline
namespace Go.Proofs.YtajbcaggpfopnaaDoor
open Go Go.RowKit

/-- WHAT COMPACT LEAVES. -/
def CompactTo (w : World) (B : Nat) (xs : List ByteArray) (W' : World) : Prop :=
  ∃ lb' xs', IsBuf W' B lb' xs' ∧ text xs' = text xs ∧ xs'.length = min 1 (text xs).length ∧ w.grownBy W' (some B) ∧ (∀ k, lb' = some k → w.heap.size ≤ k)

set_option maxHeartbeats 4000000 in
set_option maxRecDepth 100000 in
theorem compact_any (w : World) (B : Nat) (lb : Option Nat) (xs : List ByteArray) (h : IsBuf w B lb xs) :
    Calls Tryd.prog 30 #[.pointer (some ⟨B, 0, none⟩)] w fun e W' => (∃ v, e = .returned v) ∧ CompactTo w B xs W' := by
  have hl := h.len
  have hBl := h.lt
  have H := Lib.hid h
  have hlt := hl.1
  clear hl h
  obtain ⟨x, hx⟩ : ∃ x : ByteArray, x = ⟨(text xs).toArray⟩ := ⟨_, rfl⟩
  have hxl : x.data.toList = text xs := by rw [hx]
  have HX := Lib.hid hxl
  have HX2 := Lib.hid hx
  clear hxl hx
  go_enter Tryd.func30, Tryd.ntmps30
  go_wp2_with fail
  refine (size_b _ B lb xs H.out).mono ?_
  rintro e w1 ⟨rfl, hb1⟩
  have H1 := Lib.hid (H.out.below hb1)
  have hs1 := hb1.size
  have HB1 := Lib.hid hb1
  clear hb1
  go_wp2_with fail
  refine (read_b _ B lb xs H1.out 0 (text xs).length (by omega)).mono ?_
  rw [List.drop_zero, List.take_length, ← HX2.out]
  rintro e w2 ⟨rfl, hb2⟩
  have H2 := Lib.hid (H1.out.below hb2)
  have hs2 := hb2.size
  have HB2 := Lib.hid hb2
  clear hb2
  go_wp2_with fail
  refine (join_any w2.heap.size _ _ [] (sj [x]) 1 (by simp) _ (World.ownsRow_nil _ _ _ _) (by simp) ?_).mono ?_
  · refine .inr ⟨w2.heap.size, 0, 1, rfl, Nat.le_refl _, by unfold maxLen; omega, by simp, by simp [Value.ownBlock], fun j hj => ?_⟩
    have h9 := World.alloc_heap_new w2 (.cells #[.string x] 51)
    rw [cell_of_row _ _ _ _ _ (0, 0) h9, Nat.zero_add]
    match j, hj with
    | 0, _ => rfl
  rintro e w3 ⟨v3, he3, ho3, hb3⟩
  obtain ⟨a3, l3, c3, rfl⟩ := ownsRow_slice ho3
  subst he3
  have hs3 := hb3.size
  rw [World.size_alloc] at hs3
  have hb02 : Below w.heap.size w w2 := HB1.out.trans (HB2.out.mono hs1)
  have hb23 : Below w2.heap.size w2 w3 := ((Below.refl _ w2).alloc (Nat.le_refl _) _).trans hb3
  obtain ⟨v0, hv0⟩ : ∃ v0, Boxed w3 B 56 v0 := by
    obtain ⟨v, hv, _⟩ := H.out
    exact ⟨v, boxed_below (boxed_below hv hb02 hBl) hb23 (by omega)⟩
  have c9 := hv0.cell
  have f9 := hv0.frozen
  have HF : Hid (CompactTo w B xs (w3.setCell ⟨B, 0, none⟩ (.slice a3 l3 c3))) := by
    rw [List.nil_append] at ho3
    have ht : text (keep (sj [x]) 1) = text xs := by rw [text_keep]; simp [txt, sj, HX.out]
    have hrow : ∀ k, (Value.slice a3 l3 c3).ownBlock = some k → w2.heap.size ≤ k := fun k e => (ho3.lt k e).1
    have hb : (w3.setCell ⟨B, 0, none⟩ (.slice a3 l3 c3)).ownsRow w2.heap.size 51 1 (.slice a3 l3 c3) (keep (sj [x]) 1).length (cellsOf (keep (sj [x]) 1)) :=
      ho3.kept (grownBy_setCell' w3 B _) (.inr (fun e => by have := hrow B e; omega))
    have hb09 := hb02.trans (hb23.mono (by omega))
    refine ⟨(Value.slice a3 l3 c3).ownBlock, keep (sj [x]) 1, ⟨.slice a3 l3 c3, hv0.set (.slice a3 l3 c3), holds_of_owns hb, rfl, fun e => by have := hrow B e; omega, keep_full _ _, by rw [ht]; exact hlt⟩, ht, ?_, ?_, fun k e => by have := hrow k e; omega⟩
    · have e0 : sj [x] 0 = x := rfl
      have hxs : x.size = (text xs).length := by rw [Lib.size_eq, HX.out]
      simp only [keep, e0]
      split
      · rename_i h; rw [← hxs, h]; rfl
      · rename_i h; rw [← hxs]; simp; omega
    · exact ⟨hb09.os, hb09.tape, hb09.output, Nat.le_trans hb09.size (KeepsOthers.setCell w3 _ _).size, fun k hk hne => (Below.heap_setCell w3 _ _ _ (fun e => hne (by rw [e]))).trans (hb09.block k hk)⟩
  clear ho3 hb3 hb02 hb23 hv0 HB1 HB2 H1 H2 H HX HX2 hs1 hs2 hs3
  go_wp2
  go_end0
  exact ⟨⟨_, rfl⟩, HF.out⟩
end Go.Proofs.YtajbcaggpfopnaaDoor
