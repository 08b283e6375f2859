/- Trees of nodes: plain facts on texts; the kit. Nothing of the program stands here. -/
import Derived.Test.YtbegplfijjbpcaaDoorChecked
import Derived.Shelf.Abstract
import Derived.Test.YtbegplfijjbpcaaDoorGlMath
import Derived.Test.YtbegplfijjbpcaaDoorPgRow
import Derived.Test.YtbegplfijjbpcaaDoorPgRng
import Derived.WalkKit
import Derived.RangeFuncRecord
import Derived.OwnWalk
import Derived.OwnWalkIn
import Derived.Maps.AppendAt
import Derived.Lib.Hide
import Derived.Laws.OwnMore
import Derived.Deep.AppendLies
import Derived.Outline
import Derived.Lib.Strings
import Derived.BigQuiet
import Derived.Deep.QuietTactic
import Derived.Laws.StructEq
import Derived.Laws.AppendOwnNone
import Derived.Laws.AppendOwn
import Derived.Deep.RegionHeldLaw
namespace Go.Proofs.YtbegplfijjbpcaaDoor.No
open Go Go.RowKit Go.Shelf
theorem bs_inj {a b : List UInt8} (h : bs a = bs b) : a = b := by
  have := congrArg (fun x : ByteArray => x.data.toList) h
  simpa [bs] using this
theorem eqb_bs (a b : List UInt8) : ((bs a).toList == (bs b).toList) = (a == b) := by rw [ByteArray.toList_eq, ByteArray.toList_eq, bs_list, bs_list]
theorem bs_eq (a b : List UInt8) : ((bs a).toList == (bs b).toList) = decide (a = b) := by
  rw [eqb_bs]
  by_cases h : a = b
  · subst h; simp
  · simp [h]
theorem ext_take (T : List UInt8) (n : Nat) : (bs T).extract 0 n = bs (T.take n) := by
  have h : ((bs T).extract 0 n).data.toList = T.take n := by
    rw [ByteArray.data_extract]
    simp [bs]
  have := congrArg bs h
  rwa [bs_of] at this
theorem bs_app (a b : List UInt8) : bs a ++ bs b = bs (a ++ b) := by
  have h : (bs a ++ bs b).data.toList = a ++ b := by
    rw [ByteArray.data_append]
    simp [bs]
  have := congrArg bs h
  rwa [bs_of] at this
theorem bs_nil : bs [] = ⟨#[]⟩ := rfl
theorem below_dn {B : Nat} {a w : World} (h : Below B a w) (n : Nat) : Below B a (w.drewN n) := h.trans ⟨rfl, rfl, rfl, Nat.le_refl _, fun _ _ => rfl⟩
theorem own_kept {base : Nat} {t : TypeId} {sz : Nat} {X Y : World} {v : Value} {k : Nat} {xs : List Value} (h : X.ownsRow base t sz v k xs) (hb : Below X.heap.size X Y) : Y.ownsRow base t sz v k xs := by
  refine ⟨h.1, ?_⟩
  rcases h.2 with hn | ⟨g, cap, cur, e1, e2, e3, e4⟩
  · exact .inl hn
  · exact .inr ⟨g, cap, cur, e1, e2, (hb.block g (Array.getElem?_eq_some_iff.1 e3).1).trans e3, e4⟩
theorem own_form {base : Nat} {t : TypeId} {sz : Nat} {W : World} {v : Value} {k : Nat} {xs : List Value} (h : W.ownsRow base t sz v k xs) : ∃ a c, v = .slice a k c := by
  rcases h.2 with ⟨hv, h0⟩ | ⟨g, cap, cur, e1, _⟩
  · exact ⟨none, 0, by rw [hv, h0]⟩
  · exact ⟨_, _, e1⟩
theorem own_mono {w : World} {base base' : Nat} {e : TypeId} {size : Nat} {v : Value} {n : Nat} {xs : List Value} (h : w.ownsRow base e size v n xs) (hb : base' ≤ base) : w.ownsRow base' e size v n xs := by
  refine ⟨h.1, ?_⟩
  rcases h.2 with hn | ⟨g, cap, cur, e1, e2, e3⟩
  · exact .inl hn
  · exact .inr ⟨g, cap, cur, e1, Nat.le_trans hb e2, e3⟩
end Go.Proofs.YtbegplfijjbpcaaDoor.No
