/- Merged by gen/nq_merge.py: NoBase, NoMath, NoMem, NoOne. -/
import Derived.Test.YtbegplfijjbpcaaDoorChecked
import Derived.Shelf.Abstract
import Derived.Test.YtbegplfijjbpcaaDoorGlMath
import Derived.Test.YtbegplfijjbpcaaDoorPgRow
import Derived.Test.YtbegplfijjbpcaaDoorPgRng
import Derived.WalkKit
import Derived.RangeFuncRecord
import Derived.OwnWalk
import Derived.OwnWalkIn
import Derived.Maps.AppendAt
import Derived.Lib.Hide
import Derived.Laws.OwnMore
import Derived.Deep.AppendLies
import Derived.Outline
import Derived.Lib.Strings
import Derived.BigQuiet
import Derived.Deep.QuietTactic
import Derived.Laws.StructEq
import Derived.Laws.AppendOwnNone
import Derived.Laws.AppendOwn
import Derived.Deep.RegionHeldLaw
/- Trees of nodes: plain facts on texts; the kit. Nothing of the program stands here. -/
namespace Go.Proofs.YtbegplfijjbpcaaDoor.No
open Go Go.RowKit Go.Shelf
theorem bs_inj {a b : List UInt8} (h : bs a = bs b) : a = b := by
  have := congrArg (fun x : ByteArray => x.data.toList) h
  simpa [bs] using this
theorem eqb_bs (a b : List UInt8) : ((bs a).toList == (bs b).toList) = (a == b) := by rw [ByteArray.toList_eq, ByteArray.toList_eq, bs_list, bs_list]
theorem bs_eq (a b : List UInt8) : ((bs a).toList == (bs b).toList) = decide (a = b) := by
  rw [eqb_bs]
  by_cases h : a = b
  · subst h; simp
  · simp [h]
theorem ext_take (T : List UInt8) (n : Nat) : (bs T).extract 0 n = bs (T.take n) := by
  have h : ((bs T).extract 0 n).data.toList = T.take n := by
    rw [ByteArray.data_extract]
    simp [bs]
  have := congrArg bs h
  rwa [bs_of] at this
theorem bs_app (a b : List UInt8) : bs a ++ bs b = bs (a ++ b) := by
  have h : (bs a ++ bs b).data.toList = a ++ b := by
    rw [ByteArray.data_append]
    simp [bs]
  have := congrArg bs h
  rwa [bs_of] at this
theorem bs_nil : bs [] = ⟨#[]⟩ := rfl
theorem below_dn {B : Nat} {a w : World} (h : Below B a w) (n : Nat) : Below B a (w.drewN n) := h.trans ⟨rfl, rfl, rfl, Nat.le_refl _, fun _ _ => rfl⟩
theorem own_kept {base : Nat} {t : TypeId} {sz : Nat} {X Y : World} {v : Value} {k : Nat} {xs : List Value} (h : X.ownsRow base t sz v k xs) (hb : Below X.heap.size X Y) : Y.ownsRow base t sz v k xs := by
  refine ⟨h.1, ?_⟩
  rcases h.2 with hn | ⟨g, cap, cur, e1, e2, e3, e4⟩
  · exact .inl hn
  · exact .inr ⟨g, cap, cur, e1, e2, (hb.block g (Array.getElem?_eq_some_iff.1 e3).1).trans e3, e4⟩
theorem own_form {base : Nat} {t : TypeId} {sz : Nat} {W : World} {v : Value} {k : Nat} {xs : List Value} (h : W.ownsRow base t sz v k xs) : ∃ a c, v = .slice a k c := by
  rcases h.2 with ⟨hv, h0⟩ | ⟨g, cap, cur, e1, _⟩
  · exact ⟨none, 0, by rw [hv, h0]⟩
  · exact ⟨_, _, e1⟩
theorem own_mono {w : World} {base base' : Nat} {e : TypeId} {size : Nat} {v : Value} {n : Nat} {xs : List Value} (h : w.ownsRow base e size v n xs) (hb : base' ≤ base) : w.ownsRow base' e size v n xs := by
  refine ⟨h.1, ?_⟩
  rcases h.2 with hn | ⟨g, cap, cur, e1, e2, e3⟩
  · exact .inl hn
  · exact .inr ⟨g, cap, cur, e1, Nat.le_trans hb e2, e3⟩
end Go.Proofs.YtbegplfijjbpcaaDoor.No
/- Trees of nodes: which lists are one, what they show, how deep they are, joined, and their kids. Nothing of the program stands here. -/
namespace Go.Proofs.YtbegplfijjbpcaaDoor.No
open Go Go.RowKit

structure Nd where
  kind : Int
  text : List UInt8
  kids : List Int
deriving DecidableEq

/-- Is a node's form right? -/
def formB (x : Nd) : Bool :=
  if x.kind = 1 ∨ x.kind = 2 ∨ x.kind = 3 ∨ x.kind = 4 ∨ x.kind = 9 ∨ x.kind = 14 ∨ x.kind = 13 then decide (x.kids.length = 0) && !decide (x.text = [])
  else if x.kind = 5 then decide (x.kids.length = 1) && decide (x.text = [])
  else if x.kind = 8 ∨ x.kind = 10 then decide (x.kids.length = 1) && !decide (x.text = [])
  else if x.kind = 6 ∨ x.kind = 12 then decide (x.kids.length = 2) && decide (x.text = [])
  else if x.kind = 7 then decide (x.kids.length = 3) && decide (x.text = [])
  else if x.kind = 11 then decide (1 ≤ x.kids.length) && decide (x.text = [])
  else false
/-- Places that rise, from behind one on, ahead of another. -/
def riseB (i : Int) : Int → List Int → Bool
  | _, [] => true
  | last, a :: r => decide (last < a) && decide (a < i) && riseB i a r
def nodeB (i : Nat) (x : Nd) : Bool := formB x && riseB (i : Int) (-1) x.kids
def allKids (T : List Nd) : List Int := T.flatMap (·.kids)
/-- All nodes up to k are right by themselves. -/
def nodesB (T : List Nd) : Nat → Bool
  | 0 => true
  | k + 1 => nodesB T k && match T[k]? with
    | some x => nodeB k x
    | none => true
def onceB (T : List Nd) : Nat → Bool
  | 0 => true
  | k + 1 => onceB T k && decide ((allKids T).count (k : Int) = 1)
/-- IS IT A TREE? -/
def rightB (T : List Nd) : Bool := decide (1 ≤ T.length) && decide (T.length ≤ 400) && nodesB T T.length && onceB T (T.length - 1)

theorem rise_mem {i : Int} : ∀ {l : List Int} {last : Int}, riseB i last l = true → ∀ k ∈ l, last < k ∧ k < i
  | [], _, _, k, hk => by cases hk
  | a :: r, last, h, k, hk => by
    simp only [riseB, Bool.and_eq_true, decide_eq_true_eq] at h
    rcases List.mem_cons.1 hk with rfl | hk
    · exact h.1
    · have := rise_mem h.2 k hk
      omega
theorem nodes_at {T : List Nd} : ∀ {n : Nat}, nodesB T n = true → ∀ (k : Nat) (x : Nd), k < n → T[k]? = some x → nodeB k x = true
  | 0, _, k, x, hk, _ => by omega
  | n + 1, h, k, x, hk, hx => by
    simp only [nodesB, Bool.and_eq_true] at h
    rcases Nat.lt_or_ge k n with h1 | h1
    · exact nodes_at h.1 k x h1 hx
    · obtain rfl : k = n := by omega
      have h2 := h.2
      rw [hx] at h2
      exact h2
theorem nodes_of {T : List Nd} : ∀ {n : Nat}, (∀ (k : Nat) (x : Nd), k < n → T[k]? = some x → nodeB k x = true) → nodesB T n = true
  | 0, _ => rfl
  | n + 1, h => by
    simp only [nodesB, Bool.and_eq_true]
    refine ⟨nodes_of (fun k x hk hx => h k x (by omega) hx), ?_⟩
    split
    · rename_i x hx
      exact h n x (by omega) hx
    · rfl
theorem once_at {T : List Nd} : ∀ {n : Nat}, onceB T n = true → ∀ k, k < n → (allKids T).count (k : Int) = 1
  | 0, _, k, hk => by omega
  | n + 1, h, k, hk => by
    simp only [onceB, Bool.and_eq_true, decide_eq_true_eq] at h
    rcases Nat.lt_or_ge k n with h1 | h1
    · exact once_at h.1 k h1
    · obtain rfl : k = n := by omega
      exact h.2
theorem once_of {T : List Nd} : ∀ {n : Nat}, (∀ k, k < n → (allKids T).count (k : Int) = 1) → onceB T n = true
  | 0, _ => rfl
  | n + 1, h => by
    simp only [onceB, Bool.and_eq_true, decide_eq_true_eq]
    exact ⟨once_of (fun k hk => h k (by omega)), h n (by omega)⟩
structure RightT (T : List Nd) : Prop where
  pos : 1 ≤ T.length
  max : T.length ≤ 400
  node : ∀ (k : Nat) (x : Nd), T[k]? = some x → formB x = true ∧ riseB (k : Int) (-1) x.kids = true
  once : ∀ k : Nat, k + 1 < T.length → (allKids T).count (k : Int) = 1
theorem right_iff (T : List Nd) : rightB T = true ↔ RightT T := by
  constructor
  · intro h
    simp only [rightB, Bool.and_eq_true, decide_eq_true_eq] at h
    refine ⟨h.1.1.1, h.1.1.2, fun k x hx => ?_, fun k hk => once_at h.2 k (by omega)⟩
    have := nodes_at h.1.2 k x (List.getElem?_eq_some_iff.1 hx).1 hx
    simpa [nodeB] using this
  · intro h
    simp only [rightB, Bool.and_eq_true, decide_eq_true_eq]
    exact ⟨⟨⟨h.pos, h.max⟩, nodes_of (fun k x _ hx => by simpa [nodeB] using h.node k x hx)⟩, once_of (fun k hk => h.once k (by omega))⟩
theorem RightT.kid {T : List Nd} (h : RightT T) {k : Nat} {x : Nd} (hx : T[k]? = some x) : ∀ a ∈ x.kids, 0 ≤ a ∧ a < (k : Int) := fun a ha => by
  have := rise_mem (h.node k x hx).2 a ha
  omega

/-! ### What is told from the kids up -/
section
variable {α : Type}
/-- Node by node: what it tells, of what its kids tell. -/
def tabA (comb : Nat → Nd → List α → α) (d : α) (T : List Nd) : List α := T.foldl (fun tab x => tab ++ [comb tab.length x (x.kids.map fun k => (tab[k.toNat]?).getD d)]) []
theorem tab_snoc (comb : Nat → Nd → List α → α) (d : α) (T : List Nd) (x : Nd) : tabA comb d (T ++ [x]) = tabA comb d T ++ [comb (tabA comb d T).length x (x.kids.map fun k => ((tabA comb d T)[k.toNat]?).getD d)] := by
  unfold tabA
  rw [List.foldl_append]
  rfl
theorem tab_len (comb : Nat → Nd → List α → α) (d : α) : ∀ T : List Nd, (tabA comb d T).length = T.length := fun T => by
  have key : ∀ n (T : List Nd), T.length = n → (tabA comb d T).length = T.length := fun n => by
    induction n with
    | zero => intro T h; rw [List.length_eq_zero_iff.1 h]; rfl
    | succ n ih =>
      intro T h
      obtain ⟨S, x, rfl⟩ : ∃ S x, T = S ++ [x] := ⟨T.dropLast, T.getLast (by intro e; rw [e] at h; cases h), (List.dropLast_concat_getLast _).symm⟩
      rw [List.length_append, List.length_singleton] at h
      rw [tab_snoc, List.length_append, List.length_append, ih S (by omega)]
      rfl
  exact key _ T rfl
theorem tab_app (comb : Nat → Nd → List α → α) (d : α) (S : List Nd) : ∀ R : List Nd, ∃ r, tabA comb d (S ++ R) = tabA comb d S ++ r := fun R => by
  have key : ∀ n (R : List Nd), R.length = n → ∃ r, tabA comb d (S ++ R) = tabA comb d S ++ r := fun n => by
    induction n with
    | zero => intro R h; rw [List.length_eq_zero_iff.1 h]; exact ⟨[], by simp⟩
    | succ n ih =>
      intro R h
      obtain ⟨Q, x, rfl⟩ : ∃ S x, R = S ++ [x] := ⟨R.dropLast, R.getLast (by intro e; rw [e] at h; cases h), (List.dropLast_concat_getLast _).symm⟩
      rw [List.length_append, List.length_singleton] at h
      obtain ⟨r, hr⟩ := ih Q (by omega)
      refine ⟨r ++ [comb (tabA comb d (S ++ Q)).length x (x.kids.map fun k => ((tabA comb d (S ++ Q))[k.toNat]?).getD d)], ?_⟩
      rw [← List.append_assoc, tab_snoc, hr, List.append_assoc]
  exact key _ R rfl
def val (comb : Nat → Nd → List α → α) (d : α) (T : List Nd) (i : Nat) : α := ((tabA comb d T)[i]?).getD d
theorem val_eq (comb : Nat → Nd → List α → α) (d : α) {T : List Nd} {i : Nat} {x : Nd} (hx : T[i]? = some x) (hk : ∀ k ∈ x.kids, 0 ≤ k ∧ k < (i : Int)) : val comb d T i = comb i x (x.kids.map fun k => val comb d T k.toNat) := by
  have hi : i < T.length := (List.getElem?_eq_some_iff.1 hx).1
  have e : T = T.take i ++ [x] ++ T.drop (i + 1) := by
    have h1 : T.take (i + 1) = T.take i ++ [x] := by rw [List.take_add_one, hx]; rfl
    rw [← h1, List.take_append_drop]
  have hl : (T.take i).length = i := by rw [List.length_take]; omega
  obtain ⟨r, hr⟩ := tab_app comb d (T.take i ++ [x]) (T.drop (i + 1))
  rw [← e, tab_snoc] at hr
  have hlt := tab_len comb d (T.take i)
  rw [hl] at hlt
  have hv : ∀ k, k < i → val comb d T k = ((tabA comb d (T.take i))[k]?).getD d := fun k hk => by
    unfold val
    rw [hr, List.append_assoc, List.getElem?_append_left (by omega)]
  show ((tabA comb d T)[i]?).getD d = _
  rw [hr, List.append_assoc, List.getElem?_append_right (by omega), hlt, Nat.sub_self]
  show comb i x _ = _
  congr 1
  apply List.map_congr_left
  intro k hkm
  have := hk k hkm
  exact (hv k.toNat (by omega)).symm
end
/-! ### Show, deep, first -/
def hexB (n : Nat) : UInt8 := (if n < 10 then 48 + n else 87 + n).toUInt8
def badB (c : UInt8) : Bool := decide (c < 0x21) || decide (0x7e < c) || decide (c = 37) || decide (c = 40) || decide (c = 41) || decide (c = 58)
def escB (c : UInt8) : List UInt8 := if badB c then [37, hexB (c.toNat / 16), hexB (c.toNat % 16)] else [c]
def wordB (s : List UInt8) : List UInt8 := s.flatMap escB
def digB (k : Int) : List UInt8 := if 9 < k then [49, (48 + k % 10).toNat.toUInt8] else [(48 + k).toNat.toUInt8]
def headB (x : Nd) : List UInt8 := digB x.kind ++ 58 :: wordB x.text
def showC (_ : Nat) (x : Nd) (l : List (List UInt8)) : List UInt8 := if x.kids = [] then headB x else 40 :: (headB x ++ l.flatMap (fun s => 32 :: s)) ++ [41]
def deepC (_ : Nat) (_ : Nd) (l : List Nat) : Nat := l.foldl max 0 + 1
def firstC (i : Nat) (_ : Nd) (l : List Nat) : Nat := l.foldl min i
def showA (T : List Nd) : List UInt8 := if rightB T then val showC [] T (T.length - 1) else []
def deepA (T : List Nd) : Nat := if rightB T then val deepC 0 T (T.length - 1) else 0
/-! ### Joined; a kid's -/
def movN (by_ : Int) (x : Nd) : Nd := { x with kids := x.kids.map (· + by_) }
def jn : List (List Nd) → List Nd → List Int → List Nd × List Int
  | [], out, r => (out, r)
  | K :: KS, out, r => jn KS (out ++ K.map (movN (out.length : Int))) (r ++ [((out.length + K.length : Nat) : Int) - 1])
def joinL (kind : Int) (text : List UInt8) (KS : List (List Nd)) : List Nd := (jn KS [] []).1 ++ [⟨kind, text, (jn KS [] []).2⟩]
def joinA (kind : Int) (text : List UInt8) (KS : List (List Nd)) : List Nd × Nat := if KS.all rightB && rightB (joinL kind text KS) then (joinL kind text KS, 0) else ([], 70)
def rootK (T : List Nd) : List Int := match T[T.length - 1]? with
  | some x => x.kids
  | none => []
def kidL (T : List Nd) (at_ : Nat) : List Nd := (((T.take (at_ + 1)).drop (val firstC 0 T at_))).map (movN (-((val firstC 0 T at_ : Nat) : Int)))
def kidA (T : List Nd) (n : Int) : List Nd × Nat :=
  if rightB T && decide (0 ≤ n) && decide (n < ((rootK T).length : Int)) && rightB (kidL T (((rootK T)[n.toNat]?).getD 0).toNat) then (kidL T (((rootK T)[n.toNat]?).getD 0).toNat, 0) else ([], 70)
end Go.Proofs.YtbegplfijjbpcaaDoor.No
/- Nodes in memory. -/
namespace Go.Proofs.YtbegplfijjbpcaaDoor.No
open Go Go.RowKit Go.Shelf
attribute [local go_sem] Oper.semAt_some

/-- Numbers in memory, wherever they begin. -/
structure KL (W : World) (v : Value) (A : List Int) : Prop where
  form : ∃ a0 c0, v = .slice a0 A.length c0 ∧ A.length ≤ c0 ∧ c0 ≤ maxLen
  cells : 0 < A.length → ∃ g o c0, v = .slice (some ⟨g, o, none⟩) A.length c0 ∧ g < W.heap.size ∧ ∀ j x, A[j]? = some x → W.cell? ⟨g, o + j, none⟩ = some (.int .i64 x)
theorem KL.below {W W' : World} {v : Value} {A : List Int} (h : KL W v A) (hb : Below W.heap.size W W') : KL W' v A := by
  refine ⟨h.form, fun h0 => ?_⟩
  obtain ⟨g, o, c0, hv, hg, hc⟩ := h.cells h0
  exact ⟨g, o, c0, hv, Nat.lt_of_lt_of_le hg hb.size, fun j x hj => (hb.cell (p := ⟨g, o + j, none⟩) hg).trans (hc j x hj)⟩
theorem KL.nil (W : World) : KL W (.slice none 0 0) [] := ⟨⟨none, 0, rfl, Nat.le_refl _, Nat.zero_le _⟩, fun h => by simp at h⟩
/-- Numbers as cells; v owns them. -/
def nums (L : List Int) : List Value := L.map fun x => Value.int .i64 x
theorem nums_len (L : List Int) : (nums L).length = L.length := by simp [nums]
theorem nums_snoc (L : List Int) (x : Int) : nums (L ++ [x]) = nums L ++ [.int .i64 x] := by simp [nums]
theorem nums_at {L : List Int} {k : Nat} {x : Int} (h : L[k]? = some x) : (nums L)[k]? = some (.int .i64 x) := by simp [nums, h]
abbrev IOwn (W : World) (base : Nat) (v : Value) (L : List Int) : Prop := W.ownsRow base 3 1 v L.length (nums L)
theorem IOwn.nil (W : World) (base : Nat) : IOwn W base (.slice none 0 0) [] := World.ownsRow_nil _ _ _ _
theorem IOwn.kl {W : World} {base : Nat} {v : Value} {L : List Int} (h : IOwn W base v L) : KL W v L := by
  have h' := h
  rcases h.2 with ⟨hv, h0⟩ | ⟨g, cap, cur, hv, hg, hh, h1, h2, h3, h4⟩
  · refine ⟨⟨none, 0, by rw [hv, h0], by rw [h0]; exact Nat.le_refl _, Nat.zero_le _⟩, fun h => by omega⟩
  · subst hv
    refine ⟨⟨_, cap, rfl, h1, h2⟩, fun _ => ⟨g, 0, cap, rfl, (Array.getElem?_eq_some_iff.1 hh).1, fun j x hj => ?_⟩⟩
    have hjl : j < L.length := (List.getElem?_eq_some_iff.1 hj).1
    rw [Nat.zero_add, World.ownsRow.cellAt h' j (by omega)]
    exact nums_at hj
/-- A node in memory, cell by cell. -/
def NodeAt (W : World) (g o : Nat) (x : Nd) : Prop := W.cell? ⟨g, o, none⟩ = some (.int .i64 x.kind) ∧ W.cell? ⟨g, o + 1, none⟩ = some (.string (bs x.text)) ∧ ∃ kv, W.cell? ⟨g, o + 2, none⟩ = some kv ∧ KL W kv x.kids
theorem NodeAt.below {W W' : World} {g o : Nat} {x : Nd} (h : NodeAt W g o x) (hb : Below W.heap.size W W') (hg : g < W.heap.size) : NodeAt W' g o x := by
  obtain ⟨h1, h2, kv, h3, h4⟩ := h
  exact ⟨(hb.cell (p := ⟨g, o, none⟩) hg).trans h1, (hb.cell (p := ⟨g, o + 1, none⟩) hg).trans h2, kv, (hb.cell (p := ⟨g, o + 2, none⟩) hg).trans h3, h4.below hb⟩
/-- THE SLICE VALUE v IS THE LIST OF NODES T. -/
structure NL (W : World) (v : Value) (T : List Nd) : Prop where
  form : ∃ a0 c0, v = .slice a0 T.length c0 ∧ T.length ≤ c0 ∧ c0 ≤ maxLen
  cells : 0 < T.length → ∃ g o c0, v = .slice (some ⟨g, o, none⟩) T.length c0 ∧ g < W.heap.size ∧ ∀ j x, T[j]? = some x → NodeAt W g (o + j * 3) x
theorem NL.below {W W' : World} {v : Value} {T : List Nd} (h : NL W v T) (hb : Below W.heap.size W W') : NL W' v T := by
  refine ⟨h.form, fun h0 => ?_⟩
  obtain ⟨g, o, c0, hv, hg, hc⟩ := h.cells h0
  exact ⟨g, o, c0, hv, Nat.lt_of_lt_of_le hg hb.size, fun j x hj => (hc j x hj).below hb hg⟩
theorem NL.nil (W : World) : NL W (.slice none 0 0) [] := ⟨⟨none, 0, rfl, Nat.le_refl _, Nat.zero_le _⟩, fun h => by simp at h⟩
theorem info_parts {o : Option TypeInfo} {z : Option Value} {s b : Nat} (h : o.map (fun i => (i.zero, i.size, i.bytes)) = some (z, s, b)) : ∃ i, o = some i ∧ i.zero = z ∧ i.size = s ∧ i.bytes = b := by
  cases o with
  | none => cases h
  | some i =>
    simp at h
    exact ⟨i, rfl, h.1, h.2.1, h.2.2⟩
theorem infoN : ∃ i, Tryd.prog.info? 42 = some i ∧ i.zero = some (.agg #[.int .i64 0, .string ⟨#[]⟩, .slice none 0 0]) ∧ i.size = 3 ∧ i.bytes = 48 :=
  info_parts (show (Tryd.prog.info? 42).map (fun i => (i.zero, i.size, i.bytes)) = some (some (.agg #[.int .i64 0, .string ⟨#[]⟩, .slice none 0 0]), 3, 48) by kernel_rfl)
theorem infoI : ∃ i, Tryd.prog.info? 3 = some i ∧ i.zero = some (.int .i64 0) ∧ i.size = 1 ∧ i.bytes = 8 :=
  info_parts (show (Tryd.prog.info? 3).map (fun i => (i.zero, i.size, i.bytes)) = some (some (.int .i64 0), 1, 8) by kernel_rfl)
/-- A box of a node. -/
theorem node_cells {W : World} {h : Nat} {t : TypeId} {a b c : Value} (r : Row W h t #[a, b, c]) :
    W.cell? ⟨h, 0, none⟩ = some a ∧ W.cell? ⟨h, 1, none⟩ = some b ∧ W.cell? ⟨h, 2, none⟩ = some c ∧ W.frozen? ⟨h, 0, none⟩ = false ∧ W.frozen? ⟨h, 1, none⟩ = false ∧ W.frozen? ⟨h, 2, none⟩ = false := by
  have c0 := r.cell 0
  have c1 := r.cell 1
  have c2 := r.cell 2
  simp at c0 c1 c2
  exact ⟨c0, c1, c2, r.frozen 0, r.frozen 1, r.frozen 2⟩

theorem sameK {A B : List Int} (hl : A.length = B.length) (h : ∀ j, j < A.length → A[j]? = B[j]?) : A = B :=
  List.ext_getElem? fun j => by
    rcases Nat.lt_or_ge j A.length with h1 | h1
    · exact h j h1
    · rw [List.getElem?_eq_none h1, List.getElem?_eq_none (by omega)]

set_option maxHeartbeats 4000000 in
set_option maxRecDepth 100000 in
/-- Ints(a, b). -/
theorem ints_c (v u : Value) (A B : List Int) (w : World) (hA : KL w v A) (hB : KL w u B) :
    Calls Tryd.prog 53 #[v, u] w fun e W' => e = .returned (.bool (decide (A = B))) ∧ Below w.heap.size w W' := by
  obtain ⟨a0, c0, rfl, hc1, hc2⟩ := hA.form
  obtain ⟨b0, d0, rfl, hd1, hd2⟩ := hB.form
  unfold maxLen at hc2 hd2
  have HCA := Lib.hid hA.cells
  have HCB := Lib.hid hB.cells
  obtain ⟨n, hn⟩ : ∃ n, n = A.length := ⟨_, rfl⟩
  obtain ⟨m, hm⟩ : ∃ n, n = B.length := ⟨_, rfl⟩
  rw [← hn] at hc1 HCA ⊢
  rw [← hm] at hd1 HCB ⊢
  have HN := Lib.hid hn
  have HM := Lib.hid hm
  have HD := Lib.hid (Below.refl w.heap.size w)
  clear hA hB hn hm
  by_cases hnm : n = m
  · subst hnm
    go_enter Tryd.func53, Tryd.ntmps53
    go_wp2
    go_loopw [5] (fun i wr => ∃ k : Nat, k ≤ n ∧ i = .int .i64 k ∧ Below w.heap.size w wr ∧ ∀ j, j < k → A[j]? = B[j]?) (fun i _ => n - (intOf i).toNat)
    case atStart => exact ⟨0, Nat.zero_le _, rfl, HD.out, fun j hj => by omega⟩
    case round =>
      obtain ⟨k, hk, rfl, hB, hall⟩ := hrel
      have HB := Lib.hid hB
      have HALL := Lib.hid hall
      by_cases hlt : k < n
      · obtain ⟨g, o, c1, hv, hg, hcs⟩ := HCA.out (by omega)
        obtain ⟨g2, o2, c2, hv2, hg2, hcs2⟩ := HCB.out (by omega)
        obtain rfl : a0 = some ⟨g, o, none⟩ := by injection hv
        obtain rfl : b0 = some ⟨g2, o2, none⟩ := by injection hv2
        obtain ⟨x, hx⟩ : ∃ x, A[k]? = some x := ⟨_, List.getElem?_eq_getElem (by rw [← HN.out]; exact hlt)⟩
        obtain ⟨y, hy⟩ : ∃ x, B[k]? = some x := ⟨_, List.getElem?_eq_getElem (by rw [← HM.out]; exact hlt)⟩
        have e1 := (hB.cell (p := ⟨g, o + k, none⟩) hg).trans (hcs k x hx)
        have e2 := (hB.cell (p := ⟨g2, o2 + k, none⟩) hg2).trans (hcs2 k y hy)
        have HXY := Lib.hid (And.intro hx hy)
        clear hB hcs hcs2 hv hv2 hg hg2 hx hy hall
        by_cases hxy : x = y
        · subst hxy
          have t1 : (x != x) = false := by simp
          go_wp2_with fail
          go_quiet (fail)
          have HBD := Lib.hid (below_dn HB.out nq)
          clear e1 e2 HB
          go_wp2
          go_roundw
          case rel =>
            refine ⟨k + 1, by omega, by go_num, HBD.out, fun j hj => ?_⟩
            rcases Nat.lt_or_ge j k with h1 | h1
            · exact HALL.out j h1
            · obtain rfl : j = k := by omega
              rw [HXY.out.1, HXY.out.2]
          case measure => simp [intOf]; omega
        · have HNE : Hid (A ≠ B) := Lib.hid (fun e => by
            have h1 := HXY.out.1
            rw [e, HXY.out.2] at h1
            injection h1 with h1
            exact hxy h1.symm)
          have t1 : (x != y) = true := by simp; exact hxy
          clear hxy
          go_wp2_with fail
          go_quiet (fail)
          have HBD := Lib.hid (below_dn HB.out nq)
          clear e1 e2 HB
          go_wp2
          go_ret
          exact ⟨by rw [decide_eq_false HNE.out]; rfl, HBD.out⟩
      · obtain rfl : k = n := by omega
        have HE : Hid (A = B) := Lib.hid (sameK (by rw [← HN.out, ← HM.out]) (fun j hj => hall j (by rw [HN.out]; exact hj)))
        clear hB hall
        go_wp2
        go_ret
        exact ⟨by rw [decide_eq_true HE.out]; rfl, HB.out⟩
  · have HNE : Hid (A ≠ B) := Lib.hid (fun e => hnm (by rw [HN.out, HM.out, e]))
    have t1 : ((n : Int) != (m : Int)) = true := by simp; omega
    go_enter Tryd.func53, Tryd.ntmps53
    go_wp2
    go_ret
    exact ⟨by rw [decide_eq_false HNE.out]; rfl, HD.out⟩
end Go.Proofs.YtbegplfijjbpcaaDoor.No
/- The plain answers on nodes: is one another; is its form right. -/
namespace Go.Proofs.YtbegplfijjbpcaaDoor.No
open Go Go.RowKit Go.Shelf
attribute [local go_sem] Oper.semAt_some

theorem nd_eq (a b : Nd) : decide (a = b) = (decide (a.kind = b.kind) && decide (a.text = b.text) && decide (a.kids = b.kids)) := by
  cases a; cases b
  simp only [Nd.mk.injEq, Bool.decide_and, Bool.and_assoc]

set_option maxHeartbeats 4000000 in
set_option maxRecDepth 100000 in
/-- One(a, b). -/
theorem one_c (a b : Nd) (ka kb : Value) (w : World) (hA : KL w ka a.kids) (hB : KL w kb b.kids) :
    Calls Tryd.prog 38 #[.agg #[.int .i64 a.kind, .string (bs a.text), ka], .agg #[.int .i64 b.kind, .string (bs b.text), kb]] w fun e W' => e = .returned (.bool (decide (a = b))) ∧ Below w.heap.size w W' := by
  obtain ⟨W0, hW0⟩ : ∃ W0, W0 = (w.alloc (.cells #[.int .i64 a.kind, .string (bs a.text), ka] 42)).alloc (.cells #[.int .i64 b.kind, .string (bs b.text), kb] 42) := ⟨_, rfl⟩
  have hb0 : Below w.heap.size w W0 := by rw [hW0]; exact ((Below.refl _ w).alloc (Nat.le_refl _) _).alloc (by simp) _
  have HI := Lib.hid (ints_c ka kb a.kids b.kids W0 (hA.below hb0) (hB.below hb0))
  have ht := bs_eq a.text b.text
  obtain ⟨a1, c1, rfl, _⟩ := hA.form
  obtain ⟨b1, d1, rfl, _⟩ := hB.form
  rw [nd_eq]
  obtain ⟨dt, hdt⟩ : ∃ d, d = decide (a.text = b.text) := ⟨_, rfl⟩
  obtain ⟨dk, hdk⟩ : ∃ d, d = decide (a.kids = b.kids) := ⟨_, rfl⟩
  rw [← hdt] at ht ⊢
  rw [← hdk] at HI ⊢
  obtain ⟨la, hla⟩ : ∃ n, n = a.kids.length := ⟨_, rfl⟩
  obtain ⟨lb, hlb⟩ : ∃ n, n = b.kids.length := ⟨_, rfl⟩
  rw [← hla] at HI hW0 ⊢
  rw [← hlb] at HI hW0 ⊢
  obtain ⟨s, hs⟩ : ∃ s, s = bs a.text := ⟨_, rfl⟩
  obtain ⟨u, hu⟩ : ∃ s, s = bs b.text := ⟨_, rfl⟩
  rw [← hs, ← hu] at ht hW0 ⊢
  obtain ⟨x, hx⟩ : ∃ k, k = a.kind := ⟨_, rfl⟩
  obtain ⟨y, hy⟩ : ∃ k, k = b.kind := ⟨_, rfl⟩
  rw [← hx, ← hy] at hW0 ⊢
  have HB0 := Lib.hid hb0
  have hBB : Below w.heap.size w ((w.alloc (.cells #[.int .i64 x, .string s, .slice a1 la c1] 42)).alloc (.cells #[.int .i64 y, .string u, .slice b1 lb d1] 42)) := ((Below.refl _ w).alloc (Nat.le_refl _) _).alloc (by simp) _
  have HBB := Lib.hid hBB
  clear hA hB hb0 hdt hdk hla hlb hs hu hx hy hBB
  by_cases hk : x = y
  · subst hk
    cases dt with
    | true =>
      go_enter Tryd.func38, Tryd.ntmps38
      go_wp2_with fail
      rw [← hW0]
      refine HI.out.mono ?_
      rintro e w1 ⟨rfl, hb1⟩
      have HB1 := Lib.hid (HB0.out.trans (hb1.mono HB0.out.size))
      clear hb1
      go_wp2_with fail
      go_ret
      exact ⟨by simp, HB1.out⟩
    | false =>
      go_enter Tryd.func38, Tryd.ntmps38
      go_wp2_with fail
      go_ret
      exact ⟨by simp, HBB.out⟩
  · have h1 : (x == y) = false := by simpa using hk
    go_enter Tryd.func38, Tryd.ntmps38
    go_wp2_with fail
    go_ret
    exact ⟨by simp [hk], HBB.out⟩

set_option maxHeartbeats 8000000 in
set_option maxRecDepth 100000 in
/-- form(x). -/
theorem form_c (a : Nd) (ka : Value) (w : World) (hA : KL w ka a.kids) :
    Calls Tryd.prog 29 #[.agg #[.int .i64 a.kind, .string (bs a.text), ka]] w fun e W' => e = .returned (.bool (formB a)) ∧ Below w.heap.size w W' := by
  have ht : (bs a.text).toList.isEmpty = decide (a.text = []) := by
    have := bs_eq a.text []
    rw [ByteArray.toList_eq, bs_list]
    cases a.text <;> simp
  have ht2 : ((bs a.text).toList == []) = decide (a.text = []) := by
    rw [ByteArray.toList_eq, bs_list]
    cases a.text <;> simp
  obtain ⟨a1, c1, rfl, hl1, hl2⟩ := hA.form
  unfold maxLen at hl2
  have hF : formB a = formB ⟨a.kind, a.text, a.kids⟩ := rfl
  unfold formB
  obtain ⟨n, hn⟩ : ∃ n, n = a.kids.length := ⟨_, rfl⟩
  rw [← hn] at hl1 ⊢
  obtain ⟨d, hd⟩ : ∃ d, d = decide (a.text = []) := ⟨_, rfl⟩
  rw [← hd] at ht ht2 ⊢
  obtain ⟨s, hs⟩ : ∃ s, s = bs a.text := ⟨_, rfl⟩
  rw [← hs] at ht ht2 ⊢
  obtain ⟨k, hk⟩ : ∃ k, k = a.kind := ⟨_, rfl⟩
  rw [← hk]
  have hB : Below w.heap.size w (w.alloc (.cells #[.int .i64 k, .string s, .slice a1 n c1] 42)) := (Below.refl _ w).alloc (Nat.le_refl _) _
  have HB := Lib.hid hB
  clear hA hF hn hd hs hk hB
  have hk14 : k = 1 ∨ k = 2 ∨ k = 3 ∨ k = 4 ∨ k = 5 ∨ k = 6 ∨ k = 7 ∨ k = 8 ∨ k = 9 ∨ k = 10 ∨ k = 11 ∨ k = 12 ∨ k = 13 ∨ k = 14 ∨ (¬ k = 1 ∧ ¬ k = 2 ∧ ¬ k = 3 ∧ ¬ k = 4 ∧ ¬ k = 5 ∧ ¬ k = 6 ∧ ¬ k = 7 ∧ ¬ k = 8 ∧ ¬ k = 9 ∧ ¬ k = 10 ∧ ¬ k = 11 ∧ ¬ k = 12 ∧ ¬ k = 13 ∧ ¬ k = 14) := by omega
  obtain rfl | rfl | rfl | rfl | rfl | rfl | rfl | rfl | rfl | rfl | rfl | rfl | rfl | rfl | hno := hk14
  · by_cases hn : n = 0
    · subst hn
      cases d
      all_goals
        go_enter Tryd.func29, Tryd.ntmps29
        go_wp2
        go_ret
        exact ⟨by simp, HB.out⟩
    · have h1 : ((n : Int) == 0) = false := by simp; omega
      go_enter Tryd.func29, Tryd.ntmps29
      go_wp2
      go_ret
      exact ⟨by simp, HB.out⟩
  · by_cases hn : n = 0
    · subst hn
      cases d
      all_goals
        go_enter Tryd.func29, Tryd.ntmps29
        go_wp2
        go_ret
        exact ⟨by simp, HB.out⟩
    · have h1 : ((n : Int) == 0) = false := by simp; omega
      go_enter Tryd.func29, Tryd.ntmps29
      go_wp2
      go_ret
      exact ⟨by simp, HB.out⟩
  · by_cases hn : n = 0
    · subst hn
      cases d
      all_goals
        go_enter Tryd.func29, Tryd.ntmps29
        go_wp2
        go_ret
        exact ⟨by simp, HB.out⟩
    · have h1 : ((n : Int) == 0) = false := by simp; omega
      go_enter Tryd.func29, Tryd.ntmps29
      go_wp2
      go_ret
      exact ⟨by simp, HB.out⟩
  · by_cases hn : n = 0
    · subst hn
      cases d
      all_goals
        go_enter Tryd.func29, Tryd.ntmps29
        go_wp2
        go_ret
        exact ⟨by simp, HB.out⟩
    · have h1 : ((n : Int) == 0) = false := by simp; omega
      go_enter Tryd.func29, Tryd.ntmps29
      go_wp2
      go_ret
      exact ⟨by simp, HB.out⟩
  · by_cases hn : n = 1
    · subst hn
      cases d
      all_goals
        go_enter Tryd.func29, Tryd.ntmps29
        go_wp2
        go_ret
        exact ⟨by simp, HB.out⟩
    · have h1 : ((n : Int) == 1) = false := by simp; omega
      go_enter Tryd.func29, Tryd.ntmps29
      go_wp2
      go_ret
      exact ⟨by simp, HB.out⟩
  · by_cases hn : n = 2
    · subst hn
      cases d
      all_goals
        go_enter Tryd.func29, Tryd.ntmps29
        go_wp2
        go_ret
        exact ⟨by simp, HB.out⟩
    · have h1 : ((n : Int) == 2) = false := by simp; omega
      go_enter Tryd.func29, Tryd.ntmps29
      go_wp2
      go_ret
      exact ⟨by simp, HB.out⟩
  · by_cases hn : n = 3
    · subst hn
      cases d
      all_goals
        go_enter Tryd.func29, Tryd.ntmps29
        go_wp2
        go_ret
        exact ⟨by simp, HB.out⟩
    · have h1 : ((n : Int) == 3) = false := by simp; omega
      go_enter Tryd.func29, Tryd.ntmps29
      go_wp2
      go_ret
      exact ⟨by simp, HB.out⟩
  · by_cases hn : n = 1
    · subst hn
      cases d
      all_goals
        go_enter Tryd.func29, Tryd.ntmps29
        go_wp2
        go_ret
        exact ⟨by simp, HB.out⟩
    · have h1 : ((n : Int) == 1) = false := by simp; omega
      go_enter Tryd.func29, Tryd.ntmps29
      go_wp2
      go_ret
      exact ⟨by simp, HB.out⟩
  · by_cases hn : n = 0
    · subst hn
      cases d
      all_goals
        go_enter Tryd.func29, Tryd.ntmps29
        go_wp2
        go_ret
        exact ⟨by simp, HB.out⟩
    · have h1 : ((n : Int) == 0) = false := by simp; omega
      go_enter Tryd.func29, Tryd.ntmps29
      go_wp2
      go_ret
      exact ⟨by simp, HB.out⟩
  · by_cases hn : n = 1
    · subst hn
      cases d
      all_goals
        go_enter Tryd.func29, Tryd.ntmps29
        go_wp2
        go_ret
        exact ⟨by simp, HB.out⟩
    · have h1 : ((n : Int) == 1) = false := by simp; omega
      go_enter Tryd.func29, Tryd.ntmps29
      go_wp2
      go_ret
      exact ⟨by simp, HB.out⟩
  · by_cases hn : 1 ≤ n
    · have h1 : (1 : Int) ≤ (n : Int) := by omega
      have h2 : decide ((1 : Int) ≤ (n : Int)) = true := by simp; omega
      cases d
      all_goals
        go_enter Tryd.func29, Tryd.ntmps29
        go_wp2
        go_ret
        exact ⟨by simp, HB.out⟩
    · obtain rfl : n = 0 := by omega
      go_enter Tryd.func29, Tryd.ntmps29
      go_wp2
      go_ret
      exact ⟨by simp, HB.out⟩
  · by_cases hn : n = 2
    · subst hn
      cases d
      all_goals
        go_enter Tryd.func29, Tryd.ntmps29
        go_wp2
        go_ret
        exact ⟨by simp, HB.out⟩
    · have h1 : ((n : Int) == 2) = false := by simp; omega
      go_enter Tryd.func29, Tryd.ntmps29
      go_wp2
      go_ret
      exact ⟨by simp, HB.out⟩
  · by_cases hn : n = 0
    · subst hn
      cases d
      all_goals
        go_enter Tryd.func29, Tryd.ntmps29
        go_wp2
        go_ret
        exact ⟨by simp, HB.out⟩
    · have h1 : ((n : Int) == 0) = false := by simp; omega
      go_enter Tryd.func29, Tryd.ntmps29
      go_wp2
      go_ret
      exact ⟨by simp, HB.out⟩
  · by_cases hn : n = 0
    · subst hn
      cases d
      all_goals
        go_enter Tryd.func29, Tryd.ntmps29
        go_wp2
        go_ret
        exact ⟨by simp, HB.out⟩
    · have h1 : ((n : Int) == 0) = false := by simp; omega
      go_enter Tryd.func29, Tryd.ntmps29
      go_wp2
      go_ret
      exact ⟨by simp, HB.out⟩
  · obtain ⟨n1, n2, n3, n4, n5, n6, n7, n8, n9, n10, n11, n12, n13, n14⟩ := hno
    have e1 : (k == 1) = false := by simpa using n1
    have e2 : (k == 2) = false := by simpa using n2
    have e3 : (k == 3) = false := by simpa using n3
    have e4 : (k == 4) = false := by simpa using n4
    have e5 : (k == 5) = false := by simpa using n5
    have e6 : (k == 6) = false := by simpa using n6
    have e7 : (k == 7) = false := by simpa using n7
    have e8 : (k == 8) = false := by simpa using n8
    have e9 : (k == 9) = false := by simpa using n9
    have e10 : (k == 10) = false := by simpa using n10
    have e11 : (k == 11) = false := by simpa using n11
    have e12 : (k == 12) = false := by simpa using n12
    have e13 : (k == 13) = false := by simpa using n13
    have e14 : (k == 14) = false := by simpa using n14
    go_enter Tryd.func29, Tryd.ntmps29
    go_wp2
    go_ret
    exact ⟨by simp, HB.out⟩
end Go.Proofs.YtbegplfijjbpcaaDoor.No
