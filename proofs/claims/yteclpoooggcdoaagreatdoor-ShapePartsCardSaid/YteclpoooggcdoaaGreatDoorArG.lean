/- Merged by gen/ar_merge.py: ArGat, ArVa, ArRn, ArWords, ArNum, ArMap, ArLit. -/
import Derived.Test.YteclpoooggcdoaaGreatDoorArP
import Derived.Test.YteclpoooggcdoaaGreatDoorArOwn
import Derived.Maps.OwnIn
import Derived.Maps.Own
import Derived.Deep.AppendLies
import Derived.Laws.RangeString
import Derived.Lib.OthersKept
import Derived.Test.YteclpoooggcdoaaGreatDoorArItems
import Derived.Test.YteclpoooggcdoaaGreatDoorArErr
import Derived.Deep.RegionHeldLaw
/- A literal's items are gathered; a digit's value. -/
namespace Go.Proofs.YteclpoooggcdoaaGreatDoor.Ar
open Go Go.RowKit Go.Shelf
attribute [local go_sem] Oper.semAt_some

theorem KL.keep {W W' : World} {v : Value} {A : List Int} (h : KL W v A) (hs : W.heap.size ≤ W'.heap.size) (hk : ∀ g o z, W.cell? ⟨g, o, none⟩ = some (.int .i64 z) → W'.heap[g]? = W.heap[g]?) : KL W' v A := by
  refine ⟨h.form, fun h0 => ?_⟩
  obtain ⟨g, o, c0, hv, hg, hc⟩ := h.cells h0
  refine ⟨g, o, c0, hv, by omega, fun j z hz => ?_⟩
  have e := hk g (o + j) z (hc j z hz)
  rw [← hc j z hz]
  unfold World.cell?
  rw [e]
/-- Numbers do not lie where an array does. -/
theorem kl_set3 {W : World} {v : Value} {A : List Int} {h : Nat} {t : TypeId} {x y : Bool} {a : Option Addr} {n c : Nat} (hk : KL W v A) (hr : Row W h t #[.bool x, .bool y, .slice a n c]) (p q r : Value) : KL (((W.setCell ⟨h, 0, none⟩ p).setCell ⟨h, 1, none⟩ q).setCell ⟨h, 2, none⟩ r) v A := by
  refine ⟨hk.form, fun h0 => ?_⟩
  obtain ⟨g, o, c0, hv, hg, hc⟩ := hk.cells h0
  have hne : g ≠ h := fun e => by
    subst e
    obtain ⟨z, hz⟩ := at_of (L := A) (k := 0) h0
    have h1 := (hr.cell (o + 0)).symm.trans (hc 0 z hz)
    match o, h1 with
    | 0, h1 => simp at h1
    | 1, h1 => simp at h1
    | 2, h1 => simp at h1
    | k + 3, h1 => simp at h1
  refine ⟨g, o, c0, hv, by rw [World.size_setCell, World.size_setCell, World.size_setCell]; exact hg, fun j z hz => ?_⟩
  rw [← hc j z hz]
  unfold World.cell?
  rw [Below.heap_setCell _ ⟨h, 2, none⟩ r g hne, Below.heap_setCell _ ⟨h, 1, none⟩ q g hne, Below.heap_setCell _ ⟨h, 0, none⟩ p g hne]
end Go.Proofs.YteclpoooggcdoaaGreatDoor.Ar
/- Three words' values. -/
namespace Go.Proofs.YteclpoooggcdoaaGreatDoor.Ar
open Go Go.RowKit Go.Shelf
attribute [local go_sem] Oper.semAt_some

end Go.Proofs.YteclpoooggcdoaaGreatDoor.Ar
/- The runes of one literal. -/
namespace Go.Proofs.YteclpoooggcdoaaGreatDoor.Ar
open Go Go.RowKit Go.Shelf
attribute [local go_sem] Oper.semAt_some

end Go.Proofs.YteclpoooggcdoaaGreatDoor.Ar
/- The words of one literal. -/
namespace Go.Proofs.YteclpoooggcdoaaGreatDoor.Ar
open Go Go.RowKit Go.Shelf
attribute [local go_sem] Oper.semAt_some

def wordsL : List ByteArray := [⟨#[49]⟩, ⟨#[50]⟩, ⟨#[51]⟩]
def encW (x : ByteArray) : Array Value := #[.string x]
/-- How long a text's value is. -/
def strSz : Value → Nat
  | .string s => s.size
  | _ => 0
def leftW : Nat → ByteArray
  | 0 => ⟨#[49, 32, 50, 32, 51]⟩
  | 1 => ⟨#[50, 32, 51]⟩
  | 2 => ⟨#[51]⟩
  | _ => ⟨#[]⟩
end Go.Proofs.YteclpoooggcdoaaGreatDoor.Ar
/- The numbers of one literal. -/
namespace Go.Proofs.YteclpoooggcdoaaGreatDoor.Ar
open Go Go.RowKit Go.Shelf
attribute [local go_sem] Oper.semAt_some

def dgt (x : ByteArray) : Int := if x = ⟨#[49]⟩ then 1 else if x = ⟨#[50]⟩ then 2 else 3
theorem words_at {pre rest : List ByteArray} {x : ByteArray} (h : wordsL = pre ++ x :: rest) : (x = ⟨#[49]⟩ ∨ x = ⟨#[50]⟩ ∨ x = ⟨#[51]⟩) ∧ pre.length ≤ 2 := by
  constructor
  · have : x ∈ wordsL := by rw [h]; simp
    simpa [wordsL] using this
  · have := congrArg List.length h
    simp [wordsL] at this
    omega
section
variable {Kp : World → World → Prop} {w W8 : World} {h0 G : Nat}
end
end Go.Proofs.YteclpoooggcdoaaGreatDoor.Ar
/- The map of the literals' readers. -/
namespace Go.Proofs.YteclpoooggcdoaaGreatDoor.Ar
open Go Go.RowKit Go.Shelf
attribute [local go_sem] Oper.semAt_some

def ent (x : (Int × Value) × Nat) : MapEntry := ⟨.int .i64 x.1.1, x.1.2, x.2⟩
def entL (l : List (Int × Value)) : List MapEntry := l.zipIdx.map ent
theorem entL_snoc (l : List (Int × Value)) (k : Int) (v : Value) : entL (l ++ [(k, v)]) = entL l ++ [⟨.int .i64 k, v, l.length⟩] := by
  unfold entL
  rw [List.zipIdx_append, List.map_append]
  simp [ent]
def ask (s : Int) : List ((Int × Value) × Nat) → Nat → Option (Nat × Value)
  | [], _ => none
  | x :: E, i => if s = x.1.1 then some (i, x.1.2) else ask s E (i + 1)
theorem ask_now (s : Int) : ∀ (E : List ((Int × Value) × Nat)) (i : Nat), Instr.findNow (.int .i64) (.int .i64 s) (E.map ent) i = some (ask s E i)
  | [], _ => rfl
  | x :: E, i => by
    have ih := ask_now s E (i + 1)
    simp only [List.map_cons, Instr.findNow, ent, Instr.sameNow, ask]
    by_cases h : s = x.1.1
    · simp [h]
    · have hb : (s == x.1.1) = false := by simp [h]
      simp [h, hb]
      exact ih
theorem find_s (s : Int) (l : List (Int × Value)) (W : World) : (Instr.findKey 3 (.int .i64 s) (entL l)).run Tryz.prog W = .ok (ask s l.zipIdx 0) W := by
  have h := ask_now s l.zipIdx 0
  unfold entL
  simp [Instr.findKey, run_underlying Tryz.underlying3, h, Result.andThen]
theorem check_s (W : World) (e : Bool) (s : Int) : (Instr.checkKey e 10000 3 (.int .i64 s)).run Tryz.prog W = .ok () W :=
  Go.MapKept.run_checkKey (n := 9999) Tryz.underlying3 (by first | exact trivial | simp [Go.MapKept.IsKey]) e
/-- THE MAP LIES in block m. -/
def MapAt (W : World) (m : Nat) (l : List (Int × Value)) : Prop := W.heap[m]? = some (.map (entL l).toArray l.length)
theorem MapAt.lt {W : World} {m : Nat} {l : List (Int × Value)} (h : MapAt W m l) : m < W.heap.size := (Array.getElem?_eq_some_iff.1 h).1
theorem MapAt.below {W W' : World} {m : Nat} {l : List (Int × Value)} (h : MapAt W m l) (hb : Below W.heap.size W W') : MapAt W' m l := (hb.block m h.lt).trans h
/-- What a look-up answers. -/
def ansF (r : Option (Nat × Value)) : Value := match r with
  | some x => .tuple #[x.2, .bool true]
  | none => .tuple #[.nilFunc, .bool false]
/-- A map that is made, entry by entry. -/
theorem new_map (w : World) : MapAt (w.alloc (.map #[] 0)) w.heap.size [] := World.alloc_heap_new w _
abbrev fnV (k : Nat) : Value := .func (.func k) #[] #[]
end Go.Proofs.YteclpoooggcdoaaGreatDoor.Ar
/- Two literals. -/
namespace Go.Proofs.YteclpoooggcdoaaGreatDoor.Ar
open Go Go.RowKit Go.Shelf
attribute [local go_sem] Oper.semAt_some

end Go.Proofs.YteclpoooggcdoaaGreatDoor.Ar
