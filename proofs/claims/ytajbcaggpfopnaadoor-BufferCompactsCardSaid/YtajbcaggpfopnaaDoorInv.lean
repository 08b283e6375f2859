/- What a law's loop over some splices keeps. -/
import Derived.Test.YtajbcaggpfopnaaDoorLists
import Derived.Test.YtajbcaggpfopnaaDoorFew
namespace Go.Proofs.YtajbcaggpfopnaaDoor
open Go Go.RowKit

/-- Behind a splice of the buffer the splices' cells are as they were. -/
theorem acts_cell {w w1 : World} {B : Nat} (hg : w.grownBy w1 (some B)) {b : Nat} (hlt : b < w.heap.size) (hne : b ≠ B) (off : Nat) (x : Value) (hc : w.cell? ⟨b, off, none⟩ = some x) : w1.cell? ⟨b, off, none⟩ = some x :=
  (hg.cell_far ⟨b, off, none⟩ hlt (fun e => hne (by cases e; rfl))).trans hc

/-- The buffer stands in block B; all is above the entry; the splices lie between lo and hi. -/
def Inv (w : World) (lo hi B : Nat) (v : Value) (A : Nat → Int × Int × ByteArray) (m : Nat) (W : World) (lb : Option Nat) (xs : List ByteArray) : Prop :=
  IsBuf W B lb xs ∧ Below w.heap.size w W ∧ hi ≤ W.heap.size ∧ ActsIn lo hi W v A m
theorem Inv.after {w : World} {lo hi B : Nat} {v : Value} {A : Nat → Int × Int × ByteArray} {m : Nat} {W W' : World} {lb lb' : Option Nat} {xs xs' : List ByteArray}
    (h : Inv w lo hi B v A m W lb xs) (h0 : w.heap.size ≤ B) (h1 : B < lo) (hg : W.grownBy W' (some B)) (hB : IsBuf W' B lb' xs') : Inv w lo hi B v A m W' lb' xs' :=
  ⟨hB, h.2.1.grown hg h.2.1.size (fun k e => by cases e; exact h0), Nat.le_trans h.2.2.1 hg.size, h.2.2.2.kept hg (fun k e => by cases e; exact h1) h.2.2.1⟩
theorem Inv.still {w : World} {lo hi B : Nat} {v : Value} {A : Nat → Int × Int × ByteArray} {m : Nat} {W W' : World} {lb : Option Nat} {xs : List ByteArray}
    (h : Inv w lo hi B v A m W lb xs) (hb : Below W.heap.size W W') : Inv w lo hi B v A m W' lb xs :=
  ⟨h.1.below hb, h.2.1.trans (hb.mono h.2.1.size), Nat.le_trans h.2.2.1 hb.size, h.2.2.2.below hb h.2.2.1⟩
theorem Inv.drew {w : World} {lo hi B : Nat} {v : Value} {A : Nat → Int × Int × ByteArray} {m : Nat} {W : World} {lb : Option Nat} {xs : List ByteArray}
    (h : Inv w lo hi B v A m W lb xs) : Inv w lo hi B v A m W.drew lb xs := h.still (Below.refl _ W).drew
/-- A text that is told as bytes: how long. -/
theorem txt_size {xs : List ByteArray} {t : ByteArray} (h : text xs = t.data.toList) : (text xs).length = t.size := by rw [h, Lib.size_eq]
/-- The texts stay told. -/
theorem spT_bytes {xs : List ByteArray} {t : ByteArray} (h : text xs = t.data.toList) (a m : Int) (s : List UInt8) : spT (text xs) a m s = (⟨(spT t.data.toList a m s).toArray⟩ : ByteArray).data.toList := by
  rw [h]
end Go.Proofs.YtajbcaggpfopnaaDoor
