/- Trees of nodes: which lists are one, what they show, how deep they are, joined, and their kids. Nothing of the program stands here. -/
import Derived.Test.YtbegplfijjbpcaaDoorNoBase
namespace Go.Proofs.YtbegplfijjbpcaaDoor.No
open Go Go.RowKit

structure Nd where
  kind : Int
  text : List UInt8
  kids : List Int
deriving DecidableEq

/-- Is a node's form right? -/
def formB (x : Nd) : Bool :=
  if x.kind = 1 ∨ x.kind = 2 ∨ x.kind = 3 ∨ x.kind = 4 ∨ x.kind = 9 ∨ x.kind = 14 ∨ x.kind = 13 then decide (x.kids.length = 0) && !decide (x.text = [])
  else if x.kind = 5 then decide (x.kids.length = 1) && decide (x.text = [])
  else if x.kind = 8 ∨ x.kind = 10 then decide (x.kids.length = 1) && !decide (x.text = [])
  else if x.kind = 6 ∨ x.kind = 12 then decide (x.kids.length = 2) && decide (x.text = [])
  else if x.kind = 7 then decide (x.kids.length = 3) && decide (x.text = [])
  else if x.kind = 11 then decide (1 ≤ x.kids.length) && decide (x.text = [])
  else false
/-- Places that rise, from behind one on, ahead of another. -/
def riseB (i : Int) : Int → List Int → Bool
  | _, [] => true
  | last, a :: r => decide (last < a) && decide (a < i) && riseB i a r
def nodeB (i : Nat) (x : Nd) : Bool := formB x && riseB (i : Int) (-1) x.kids
def allKids (T : List Nd) : List Int := T.flatMap (·.kids)
/-- All nodes up to k are right by themselves. -/
def nodesB (T : List Nd) : Nat → Bool
  | 0 => true
  | k + 1 => nodesB T k && match T[k]? with
    | some x => nodeB k x
    | none => true
def onceB (T : List Nd) : Nat → Bool
  | 0 => true
  | k + 1 => onceB T k && decide ((allKids T).count (k : Int) = 1)
/-- IS IT A TREE? -/
def rightB (T : List Nd) : Bool := decide (1 ≤ T.length) && decide (T.length ≤ 400) && nodesB T T.length && onceB T (T.length - 1)

theorem rise_mem {i : Int} : ∀ {l : List Int} {last : Int}, riseB i last l = true → ∀ k ∈ l, last < k ∧ k < i
  | [], _, _, k, hk => by cases hk
  | a :: r, last, h, k, hk => by
    simp only [riseB, Bool.and_eq_true, decide_eq_true_eq] at h
    rcases List.mem_cons.1 hk with rfl | hk
    · exact h.1
    · have := rise_mem h.2 k hk
      omega
theorem nodes_at {T : List Nd} : ∀ {n : Nat}, nodesB T n = true → ∀ (k : Nat) (x : Nd), k < n → T[k]? = some x → nodeB k x = true
  | 0, _, k, x, hk, _ => by omega
  | n + 1, h, k, x, hk, hx => by
    simp only [nodesB, Bool.and_eq_true] at h
    rcases Nat.lt_or_ge k n with h1 | h1
    · exact nodes_at h.1 k x h1 hx
    · obtain rfl : k = n := by omega
      have h2 := h.2
      rw [hx] at h2
      exact h2
theorem nodes_of {T : List Nd} : ∀ {n : Nat}, (∀ (k : Nat) (x : Nd), k < n → T[k]? = some x → nodeB k x = true) → nodesB T n = true
  | 0, _ => rfl
  | n + 1, h => by
    simp only [nodesB, Bool.and_eq_true]
    refine ⟨nodes_of (fun k x hk hx => h k x (by omega) hx), ?_⟩
    split
    · rename_i x hx
      exact h n x (by omega) hx
    · rfl
theorem once_at {T : List Nd} : ∀ {n : Nat}, onceB T n = true → ∀ k, k < n → (allKids T).count (k : Int) = 1
  | 0, _, k, hk => by omega
  | n + 1, h, k, hk => by
    simp only [onceB, Bool.and_eq_true, decide_eq_true_eq] at h
    rcases Nat.lt_or_ge k n with h1 | h1
    · exact once_at h.1 k h1
    · obtain rfl : k = n := by omega
      exact h.2
theorem once_of {T : List Nd} : ∀ {n : Nat}, (∀ k, k < n → (allKids T).count (k : Int) = 1) → onceB T n = true
  | 0, _ => rfl
  | n + 1, h => by
    simp only [onceB, Bool.and_eq_true, decide_eq_true_eq]
    exact ⟨once_of (fun k hk => h k (by omega)), h n (by omega)⟩
structure RightT (T : List Nd) : Prop where
  pos : 1 ≤ T.length
  max : T.length ≤ 400
  node : ∀ (k : Nat) (x : Nd), T[k]? = some x → formB x = true ∧ riseB (k : Int) (-1) x.kids = true
  once : ∀ k : Nat, k + 1 < T.length → (allKids T).count (k : Int) = 1
theorem right_iff (T : List Nd) : rightB T = true ↔ RightT T := by
  constructor
  · intro h
    simp only [rightB, Bool.and_eq_true, decide_eq_true_eq] at h
    refine ⟨h.1.1.1, h.1.1.2, fun k x hx => ?_, fun k hk => once_at h.2 k (by omega)⟩
    have := nodes_at h.1.2 k x (List.getElem?_eq_some_iff.1 hx).1 hx
    simpa [nodeB] using this
  · intro h
    simp only [rightB, Bool.and_eq_true, decide_eq_true_eq]
    exact ⟨⟨⟨h.pos, h.max⟩, nodes_of (fun k x _ hx => by simpa [nodeB] using h.node k x hx)⟩, once_of (fun k hk => h.once k (by omega))⟩
theorem RightT.kid {T : List Nd} (h : RightT T) {k : Nat} {x : Nd} (hx : T[k]? = some x) : ∀ a ∈ x.kids, 0 ≤ a ∧ a < (k : Int) := fun a ha => by
  have := rise_mem (h.node k x hx).2 a ha
  omega

/-! ### What is told from the kids up -/
section
variable {α : Type}
/-- Node by node: what it tells, of what its kids tell. -/
def tabA (comb : Nat → Nd → List α → α) (d : α) (T : List Nd) : List α := T.foldl (fun tab x => tab ++ [comb tab.length x (x.kids.map fun k => (tab[k.toNat]?).getD d)]) []
theorem tab_snoc (comb : Nat → Nd → List α → α) (d : α) (T : List Nd) (x : Nd) : tabA comb d (T ++ [x]) = tabA comb d T ++ [comb (tabA comb d T).length x (x.kids.map fun k => ((tabA comb d T)[k.toNat]?).getD d)] := by
  unfold tabA
  rw [List.foldl_append]
  rfl
theorem tab_len (comb : Nat → Nd → List α → α) (d : α) : ∀ T : List Nd, (tabA comb d T).length = T.length := fun T => by
  have key : ∀ n (T : List Nd), T.length = n → (tabA comb d T).length = T.length := fun n => by
    induction n with
    | zero => intro T h; rw [List.length_eq_zero_iff.1 h]; rfl
    | succ n ih =>
      intro T h
      obtain ⟨S, x, rfl⟩ : ∃ S x, T = S ++ [x] := ⟨T.dropLast, T.getLast (by intro e; rw [e] at h; cases h), (List.dropLast_concat_getLast _).symm⟩
      rw [List.length_append, List.length_singleton] at h
      rw [tab_snoc, List.length_append, List.length_append, ih S (by omega)]
      rfl
  exact key _ T rfl
theorem tab_app (comb : Nat → Nd → List α → α) (d : α) (S : List Nd) : ∀ R : List Nd, ∃ r, tabA comb d (S ++ R) = tabA comb d S ++ r := fun R => by
  have key : ∀ n (R : List Nd), R.length = n → ∃ r, tabA comb d (S ++ R) = tabA comb d S ++ r := fun n => by
    induction n with
    | zero => intro R h; rw [List.length_eq_zero_iff.1 h]; exact ⟨[], by simp⟩
    | succ n ih =>
      intro R h
      obtain ⟨Q, x, rfl⟩ : ∃ S x, R = S ++ [x] := ⟨R.dropLast, R.getLast (by intro e; rw [e] at h; cases h), (List.dropLast_concat_getLast _).symm⟩
      rw [List.length_append, List.length_singleton] at h
      obtain ⟨r, hr⟩ := ih Q (by omega)
      refine ⟨r ++ [comb (tabA comb d (S ++ Q)).length x (x.kids.map fun k => ((tabA comb d (S ++ Q))[k.toNat]?).getD d)], ?_⟩
      rw [← List.append_assoc, tab_snoc, hr, List.append_assoc]
  exact key _ R rfl
def val (comb : Nat → Nd → List α → α) (d : α) (T : List Nd) (i : Nat) : α := ((tabA comb d T)[i]?).getD d
theorem val_eq (comb : Nat → Nd → List α → α) (d : α) {T : List Nd} {i : Nat} {x : Nd} (hx : T[i]? = some x) (hk : ∀ k ∈ x.kids, 0 ≤ k ∧ k < (i : Int)) : val comb d T i = comb i x (x.kids.map fun k => val comb d T k.toNat) := by
  have hi : i < T.length := (List.getElem?_eq_some_iff.1 hx).1
  have e : T = T.take i ++ [x] ++ T.drop (i + 1) := by
    have h1 : T.take (i + 1) = T.take i ++ [x] := by rw [List.take_add_one, hx]; rfl
    rw [← h1, List.take_append_drop]
  have hl : (T.take i).length = i := by rw [List.length_take]; omega
  obtain ⟨r, hr⟩ := tab_app comb d (T.take i ++ [x]) (T.drop (i + 1))
  rw [← e, tab_snoc] at hr
  have hlt := tab_len comb d (T.take i)
  rw [hl] at hlt
  have hv : ∀ k, k < i → val comb d T k = ((tabA comb d (T.take i))[k]?).getD d := fun k hk => by
    unfold val
    rw [hr, List.append_assoc, List.getElem?_append_left (by omega)]
  show ((tabA comb d T)[i]?).getD d = _
  rw [hr, List.append_assoc, List.getElem?_append_right (by omega), hlt, Nat.sub_self]
  show comb i x _ = _
  congr 1
  apply List.map_congr_left
  intro k hkm
  have := hk k hkm
  exact (hv k.toNat (by omega)).symm
end
/-! ### Show, deep, first -/
def hexB (n : Nat) : UInt8 := (if n < 10 then 48 + n else 87 + n).toUInt8
def badB (c : UInt8) : Bool := decide (c < 0x21) || decide (0x7e < c) || decide (c = 37) || decide (c = 40) || decide (c = 41) || decide (c = 58)
def escB (c : UInt8) : List UInt8 := if badB c then [37, hexB (c.toNat / 16), hexB (c.toNat % 16)] else [c]
def wordB (s : List UInt8) : List UInt8 := s.flatMap escB
def digB (k : Int) : List UInt8 := if 9 < k then [49, (48 + k % 10).toNat.toUInt8] else [(48 + k).toNat.toUInt8]
def headB (x : Nd) : List UInt8 := digB x.kind ++ 58 :: wordB x.text
def showC (_ : Nat) (x : Nd) (l : List (List UInt8)) : List UInt8 := if x.kids = [] then headB x else 40 :: (headB x ++ l.flatMap (fun s => 32 :: s)) ++ [41]
def deepC (_ : Nat) (_ : Nd) (l : List Nat) : Nat := l.foldl max 0 + 1
def firstC (i : Nat) (_ : Nd) (l : List Nat) : Nat := l.foldl min i
def showA (T : List Nd) : List UInt8 := if rightB T then val showC [] T (T.length - 1) else []
def deepA (T : List Nd) : Nat := if rightB T then val deepC 0 T (T.length - 1) else 0
/-! ### Joined; a kid's -/
def movN (by_ : Int) (x : Nd) : Nd := { x with kids := x.kids.map (· + by_) }
def jn : List (List Nd) → List Nd → List Int → List Nd × List Int
  | [], out, r => (out, r)
  | K :: KS, out, r => jn KS (out ++ K.map (movN (out.length : Int))) (r ++ [((out.length + K.length : Nat) : Int) - 1])
def joinL (kind : Int) (text : List UInt8) (KS : List (List Nd)) : List Nd := (jn KS [] []).1 ++ [⟨kind, text, (jn KS [] []).2⟩]
def joinA (kind : Int) (text : List UInt8) (KS : List (List Nd)) : List Nd × Nat := if KS.all rightB && rightB (joinL kind text KS) then (joinL kind text KS, 0) else ([], 70)
def rootK (T : List Nd) : List Int := match T[T.length - 1]? with
  | some x => x.kids
  | none => []
def kidL (T : List Nd) (at_ : Nat) : List Nd := (((T.take (at_ + 1)).drop (val firstC 0 T at_))).map (movN (-((val firstC 0 T at_ : Nat) : Int)))
def kidA (T : List Nd) (n : Int) : List Nd × Nat :=
  if rightB T && decide (0 ≤ n) && decide (n < ((rootK T).length : Int)) && rightB (kidL T (((rootK T)[n.toNat]?).getD 0).toNat) then (kidL T (((rootK T)[n.toNat]?).getD 0).toNat, 0) else ([], 70)
end Go.Proofs.YtbegplfijjbpcaaDoor.No
