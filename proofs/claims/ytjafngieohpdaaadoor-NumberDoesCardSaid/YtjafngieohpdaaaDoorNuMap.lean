/- Number's maps of glyphs: what a look-up and an insertion answer. -/
import Derived.Test.YtjafngieohpdaaaDoorNuPass
import Derived.Maps.Own
namespace Go.Proofs.YtjafngieohpdaaaDoor.Nu
open Go Go.RowKit Go.Shelf
attribute [local go_sem] Oper.semAt_some

def ent (x : (ByteArray × Value) × Nat) : MapEntry := ⟨.string x.1.1, x.1.2, x.2⟩
def entL (l : List (ByteArray × Value)) : List MapEntry := l.zipIdx.map ent
theorem entL_snoc (l : List (ByteArray × Value)) (k : ByteArray) (v : Value) : entL (l ++ [(k, v)]) = entL l ++ [⟨.string k, v, l.length⟩] := by
  unfold entL
  rw [List.zipIdx_append, List.map_append]
  simp [ent]
def ask (s : ByteArray) : List ((ByteArray × Value) × Nat) → Nat → Option (Nat × Value)
  | [], _ => none
  | x :: E, i => if s = x.1.1 then some (i, x.1.2) else ask s E (i + 1)
theorem ask_now (s : ByteArray) : ∀ (E : List ((ByteArray × Value) × Nat)) (i : Nat), Instr.findNow .string (.string s) (E.map ent) i = some (ask s E i)
  | [], _ => rfl
  | x :: E, i => by
    have ih := ask_now s E (i + 1)
    simp only [List.map_cons, Instr.findNow, ent, Instr.sameNow, ask]
    by_cases h : s = x.1.1
    · have : (s == x.1.1) = true := (Go.MapKept.bytes_beq _ _).2 h
      rw [this, if_pos h]
    · have : (s == x.1.1) = false := by
        cases hb : (s == x.1.1)
        · rfl
        · exact absurd ((Go.MapKept.bytes_beq _ _).1 hb) h
      rw [this, if_neg h]
      exact ih
theorem find_s (s : ByteArray) (l : List (ByteArray × Value)) (W : World) : (Instr.findKey 9 (.string s) (entL l)).run Tryd.prog W = .ok (ask s l.zipIdx 0) W := by
  have h := ask_now s l.zipIdx 0
  unfold entL
  simp [Instr.findKey, run_underlying Tryd.underlying9, h, Result.andThen]
theorem check_s (W : World) (e : Bool) (s : ByteArray) : (Instr.checkKey e 10000 9 (.string s)).run Tryd.prog W = .ok () W :=
  Go.MapKept.run_checkKey (n := 9999) Tryd.underlying9 (by first | exact trivial | simp [Go.MapKept.IsKey]) e
/-- THE MAP LIES in block m. -/
def MapAt (W : World) (m : Nat) (l : List (ByteArray × Value)) : Prop := W.heap[m]? = some (.map (entL l).toArray l.length)
theorem MapAt.lt {W : World} {m : Nat} {l : List (ByteArray × Value)} (h : MapAt W m l) : m < W.heap.size := (Array.getElem?_eq_some_iff.1 h).1
theorem MapAt.below {W W' : World} {m : Nat} {l : List (ByteArray × Value)} (h : MapAt W m l) (hb : Below W.heap.size W W') : MapAt W' m l := (hb.block m h.lt).trans h
/-- What a look-up answers. -/
def ansF (r : Option (Nat × Value)) : Value := match r with
  | some x => .tuple #[x.2, .bool true]
  | none => .tuple #[.nilFunc, .bool false]
theorem look_map {W : World} {m : Nat} {l : List (ByteArray × Value)} (h : MapAt W m l) (s : ByteArray) :
    (Instr.lookup 62 (.map (some m)) (.string s) true).run Tryd.prog W = .ok (ansF (ask s l.zipIdx 0)) W := by
  have h1 := find_s s l W
  have h3 := fun e => check_s W e s
  cases hr : ask s l.zipIdx 0 with
  | none =>
    rw [hr] at h1
    simp [Instr.lookup, run_underlying Tryd.underlying62, Go.MapKept.run_getObj_map h, h3, h1, Result.andThen, Tryd.zeroValue48, ansF]
  | some x =>
    rw [hr] at h1
    simp [Instr.lookup, run_underlying Tryd.underlying62, Go.MapKept.run_getObj_map h, h3, h1, Result.andThen, ansF]
/-- All blocks but m stay. -/
def Kp (m : Nat) (W W' : World) : Prop := W.heap.size ≤ W'.heap.size ∧ ∀ q, q ≠ m → q < W.heap.size → W'.heap[q]? = W.heap[q]?
theorem Kp.trans {m : Nat} {W W' W2 : World} (h : Kp m W W') (h2 : Kp m W' W2) : Kp m W W2 := ⟨Nat.le_trans h.1 h2.1, fun q hq hl => (h2.2 q hq (Nat.lt_of_lt_of_le hl h.1)).trans (h.2 q hq hl)⟩
theorem Kp.alloc (m : Nat) (W : World) (o : Obj) : Kp m W (W.alloc o) := ⟨by rw [World.size_alloc]; exact Nat.le_succ _, fun q _ hl => Below.heap_alloc W o q hl⟩
theorem ins_map {W : World} {m : Nat} {l : List (ByteArray × Value)} (h : MapAt W m l) (k : ByteArray) (v : Value) (hn : ask k l.zipIdx 0 = none) :
    ∃ W', (Instr.mapUpdate 62 (.map (some m)) (.string k) v).run Tryd.prog W = .ok () W' ∧ MapAt W' m (l ++ [(k, v)]) ∧ (∀ n, n ≤ m → Below n W W') ∧ Kp m W W' := by
  have h1 := find_s k l W
  rw [hn] at h1
  have hlt := h.lt
  have hp : ((entL l).toArray).push { key := .string k, val := v, born := l.length } = (entL (l ++ [(k, v)])).toArray := by rw [entL_snoc]; simp
  refine ⟨{ W with heap := W.heap.setIfInBounds m (.map (entL (l ++ [(k, v)])).toArray (l ++ [(k, v)]).length) }, ?_, ?_, fun n hn' => ⟨rfl, rfl, rfl, by simp, fun q hq => ?_⟩, by simp, fun q hq _ => ?_⟩
  · have h4 : (Instr.checkKey false 10000 9 (.string k)).run Tryd.prog W = .ok () W := check_s _ _ _
    simp [Instr.mapUpdate, run_underlying Tryd.underlying62, Go.MapKept.run_getObj_map h, h4, h1, Go.MapKept.run_setObj_map _ h, Result.andThen, hp]
  · show (W.heap.setIfInBounds m _)[m]? = _
    rw [Array.getElem?_setIfInBounds_self_of_lt hlt]
  · show (W.heap.setIfInBounds m _)[q]? = _
    rw [Array.getElem?_setIfInBounds_ne (by omega)]
  · show (W.heap.setIfInBounds m _)[q]? = _
    rw [Array.getElem?_setIfInBounds_ne (fun e => hq e.symm)]
/-- A map that is made, entry by entry. -/
theorem new_map (w : World) : MapAt (w.alloc (.map #[] 0)) w.heap.size [] := World.alloc_heap_new w _
end Go.Proofs.YtjafngieohpdaaaDoor.Nu
