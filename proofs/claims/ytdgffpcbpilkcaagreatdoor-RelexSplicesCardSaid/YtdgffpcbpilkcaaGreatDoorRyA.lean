/- A text's lines, and what a splice makes of them. Nothing of the program stands here. A lexer in memory: its lines, their tokens, how many were lexed; the ground that it stands on. A line's tokens, as the program tells them. The plain Same and Text, of tokens in memory. The lines are gone through by a range over a function: the iterator's contract. How many bytes there are. The line that a place is in. -/
import Derived.Lib.SplitLaws
import Derived.Test.YtdgffpcbpilkcaaGreatDoorLxMem
import Derived.Test.YtdgffpcbpilkcaaGreatDoorLxLine
import Derived.Shelf.AbstractIn
import Derived.BigQuiet
import Derived.Deep.QuietTactic
import Derived.Laws.StructEq
import Derived.RangeFuncNested
import Derived.RangeFuncBound
import Derived.RangeFuncCalls
import Derived.RangeFuncLeaves
import Derived.Shelf.Abstract
import Derived.Shelf.RegionOpen
import Derived.WalkKit
import Derived.OwnWalkIn
import Derived.TacticsInMore
import Derived.LoopNIn
import Derived.LoopIn
import Derived.Outline
/- A text's lines, and what a splice makes of them. Nothing of the program stands here. -/
namespace Go.Proofs.YtdgffpcbpilkcaaGreatDoor
open Go

/-- Lines, with a line end between two. -/
def joinL : List (List UInt8) → List UInt8
  | [] => []
  | [x] => x
  | x :: y :: r => x ++ 10 :: joinL (y :: r)
/-- A text's lines. -/
def splitL : List UInt8 → List (List UInt8)
  | [] => [[]]
  | b :: r => if b = 10 then [] :: splitL r else (b :: (splitL r).headD []) :: (splitL r).tail

theorem splitL_ne : ∀ s, splitL s ≠ []
  | [] => by simp [splitL]
  | b :: r => by unfold splitL; split <;> simp
theorem splitL_cons (s : List UInt8) : ∃ x l, splitL s = x :: l := by
  cases h : splitL s with
  | nil => exact absurd h (splitL_ne s)
  | cons x l => exact ⟨x, l, rfl⟩
theorem joinL_cons (x : List UInt8) {l : List (List UInt8)} (h : l ≠ []) : joinL (x :: l) = x ++ 10 :: joinL l := by
  cases l with
  | nil => exact absurd rfl h
  | cons y r => rfl
theorem join_split : ∀ s, joinL (splitL s) = s
  | [] => rfl
  | b :: r => by
    unfold splitL
    obtain ⟨x, l, hx⟩ := splitL_cons r
    have ih := join_split r
    split
    · rename_i hb
      rw [joinL_cons _ (splitL_ne r), ih, hb]; rfl
    · rw [hx] at ih ⊢
      cases l with
      | nil => simpa [joinL] using ih
      | cons y q => simpa [joinL] using ih
theorem splitL_no : ∀ (s : List UInt8), ∀ x ∈ splitL s, (10 : UInt8) ∉ x
  | [] => by simp [splitL]
  | b :: r => by
    intro x hx
    unfold splitL at hx
    have ih := splitL_no r
    obtain ⟨y, l, hy⟩ := splitL_cons r
    split at hx
    · rcases List.mem_cons.1 hx with rfl | h
      · simp
      · exact ih x h
    · rename_i hb
      rw [hy] at hx ih
      rcases List.mem_cons.1 hx with rfl | h
      · have := ih y (by simp)
        simp only [List.headD_cons, List.mem_cons, not_or]
        exact ⟨fun e => hb e.symm, this⟩
      · exact ih x (List.mem_cons_of_mem _ h)
theorem splitL_len : ∀ s : List UInt8, (splitL s).length = s.count 10 + 1
  | [] => rfl
  | b :: r => by
    have ih := splitL_len r
    unfold splitL
    split
    · rename_i hb
      subst hb
      simp [ih]
    · rename_i hb
      obtain ⟨y, l, hy⟩ := splitL_cons r
      rw [hy] at ih ⊢
      rw [List.count_cons_of_ne hb]
      simpa using ih
/-- A line without line ends, and a line end behind it, in front of a text. -/
theorem splitL_line : ∀ (x r : List UInt8), (10 : UInt8) ∉ x → splitL (x ++ 10 :: r) = x :: splitL r
  | [], r, _ => by simp [splitL]
  | b :: x, r, h => by
    have hb : b ≠ 10 := fun e => h (by simp [e])
    have ih := splitL_line x r (fun e => h (List.mem_cons_of_mem _ e))
    rw [List.cons_append]
    conv => lhs; unfold splitL
    rw [if_neg hb, ih]
    rfl
theorem splitL_one : ∀ (x : List UInt8), (10 : UInt8) ∉ x → splitL x = [x]
  | [], _ => rfl
  | b :: x, h => by
    have hb : b ≠ 10 := fun e => h (by simp [e])
    unfold splitL
    rw [if_neg hb, splitL_one x (fun e => h (List.mem_cons_of_mem _ e))]
    rfl
theorem split_join : ∀ (ls : List (List UInt8)), ls ≠ [] → (∀ x ∈ ls, (10 : UInt8) ∉ x) → splitL (joinL ls) = ls
  | [], h, _ => absurd rfl h
  | [x], _, h => splitL_one x (h x (by simp))
  | x :: y :: r, _, h => by
    show splitL (x ++ 10 :: joinL (y :: r)) = _
    rw [splitL_line x _ (h x (by simp)), split_join (y :: r) (by simp) (fun z hz => h z (List.mem_cons_of_mem _ hz))]

/-! ### Joined lists -/
theorem joinL_app : ∀ (A B : List (List UInt8)), A ≠ [] → B ≠ [] → joinL (A ++ B) = joinL A ++ 10 :: joinL B
  | [], _, h, _ => absurd rfl h
  | [x], B, _, hB => by rw [List.singleton_append, joinL_cons x hB]; rfl
  | x :: y :: r, B, _, hB => by
    rw [List.cons_append, joinL_cons x (by simp), joinL_app (y :: r) B (by simp) hB, joinL_cons x (by simp)]
    simp
/-- What stands at the end of a list of lines may be longer. -/
theorem joinL_snoc (A : List (List UInt8)) (x t : List UInt8) : joinL (A ++ [x ++ t]) = joinL (A ++ [x]) ++ t := by
  cases A with
  | nil => rfl
  | cons a A => rw [joinL_app _ _ (by simp) (by simp), joinL_app _ _ (by simp) (by simp)]; simp [joinL]
theorem joinL_head (B : List (List UInt8)) (x t : List UInt8) : joinL ((t ++ x) :: B) = t ++ joinL (x :: B) := by
  cases B with
  | nil => rfl
  | cons a A => simp [joinL]
/-- Lines in the middle, and their text in one piece. -/
theorem joinL_mid (A M B : List (List UInt8)) (hM : M ≠ []) : joinL (A ++ M ++ B) = joinL (A ++ [joinL M] ++ B) := by
  have e1 : joinL (A ++ M) = joinL (A ++ [joinL M]) := by
    cases A with
    | nil => rfl
    | cons a A => rw [joinL_app _ _ (by simp) hM, joinL_app _ _ (by simp) (by simp)]; rfl
  cases B with
  | nil => rw [List.append_nil, List.append_nil, e1]
  | cons b B => rw [joinL_app (A ++ M) (b :: B) (by simp [hM]) (by simp), joinL_app (A ++ [joinL M]) (b :: B) (by simp) (by simp), e1]

/-! ### Where lines begin, and places -/
/-- Where line k begins. -/
def begL (ls : List (List UInt8)) (k : Nat) : Nat := ((ls.take k).map fun x => x.length + 1).sum
theorem begL_zero (ls : List (List UInt8)) : begL ls 0 = 0 := by simp [begL]
theorem begL_succ {ls : List (List UInt8)} {k : Nat} {x : List UInt8} (h : ls[k]? = some x) : begL ls (k + 1) = begL ls k + (x.length + 1) := by
  unfold begL
  rw [List.take_add_one, h]
  simp
theorem begL_mono (ls : List (List UInt8)) (j : Nat) : begL ls j ≤ begL ls (j + 1) := by
  cases h : ls[j]? with
  | some x => rw [begL_succ h]; omega
  | none =>
    have hl := List.getElem?_eq_none_iff.1 h
    unfold begL
    rw [List.take_of_length_le hl, List.take_of_length_le (by omega)]
    exact Nat.le_refl _
theorem begL_le (ls : List (List UInt8)) {j k : Nat} (h : j ≤ k) : begL ls j ≤ begL ls k := by
  induction k with
  | zero => obtain rfl : j = 0 := by omega
            exact Nat.le_refl _
  | succ k ih =>
    rcases Nat.lt_or_ge j (k + 1) with h1 | h1
    · exact Nat.le_trans (ih (by omega)) (begL_mono ls k)
    · obtain rfl : j = k + 1 := by omega
      exact Nat.le_refl _
theorem begL_all : ∀ ls : List (List UInt8), ls ≠ [] → begL ls ls.length = (joinL ls).length + 1
  | [], h => absurd rfl h
  | [x], _ => by simp [begL, joinL]
  | x :: y :: r, _ => by
    have ih := begL_all (y :: r) (by simp)
    unfold begL at ih ⊢
    rw [List.take_length] at ih ⊢
    rw [List.map_cons, List.sum_cons, ih, joinL_cons x (by simp)]
    simp only [List.length_append, List.length_cons]
    omega
/-- Behind which line ends a place stands, and how far. -/
def findL : List (List UInt8) → Nat → Nat × Nat
  | [], a => (0, a)
  | x :: r, a => if a ≤ x.length then (0, a) else ((findL r (a - (x.length + 1))).1 + 1, (findL r (a - (x.length + 1))).2)
theorem findL_spec : ∀ (ls : List (List UInt8)) (a : Nat), ls ≠ [] → a ≤ (joinL ls).length →
    ∃ x, ls[(findL ls a).1]? = some x ∧ (findL ls a).2 ≤ x.length ∧ begL ls (findL ls a).1 + (findL ls a).2 = a
  | [], _, h, _ => absurd rfl h
  | x :: r, a, _, ha => by
    unfold findL
    by_cases hle : a ≤ x.length
    · rw [if_pos hle]
      exact ⟨x, rfl, hle, by simp [begL]⟩
    · rw [if_neg hle]
      cases r with
      | nil => exact absurd (by simpa [joinL] using ha) hle
      | cons y q =>
        rw [joinL_cons x (by simp)] at ha
        simp only [List.length_append, List.length_cons] at ha
        obtain ⟨z, h1, h2, h3⟩ := findL_spec (y :: q) (a - (x.length + 1)) (by simp) (by omega)
        refine ⟨z, by simpa using h1, h2, ?_⟩
        have e : begL (x :: y :: q) ((findL (y :: q) (a - (x.length + 1))).1 + 1) = (x.length + 1) + begL (y :: q) (findL (y :: q) (a - (x.length + 1))).1 := by
          unfold begL; rw [List.take_succ_cons, List.map_cons, List.sum_cons]
        simp only [e]
        omega
/-- It is the first line whose end isn't ahead of the place. -/
theorem findL_first (ls : List (List UInt8)) (a k : Nat) (x : List UInt8) (hx : ls[k]? = some x) (h1 : begL ls k ≤ a) (h2 : a ≤ begL ls k + x.length) : findL ls a = (k, a - begL ls k) := by
  induction ls generalizing a k with
  | nil => simp at hx
  | cons y r ih =>
    unfold findL
    cases k with
    | zero =>
      obtain rfl : y = x := by simpa using hx
      rw [begL_zero] at h2 ⊢
      rw [if_pos (by omega)]
      rfl
    | succ k =>
      have e : begL (y :: r) (k + 1) = (y.length + 1) + begL r k := by
        unfold begL; rw [List.take_succ_cons, List.map_cons, List.sum_cons]
      rw [e] at h1 h2 ⊢
      rw [if_neg (by omega), ih (a - (y.length + 1)) k (by simpa using hx) (by omega) (by omega)]
      simp only [Prod.mk.injEq, true_and]
      omega
/-- Ahead of a place; behind it. -/
theorem take_at : ∀ (ls : List (List UInt8)) (k : Nat) (x : List UInt8) (f : Nat), ls[k]? = some x → f ≤ x.length → (joinL ls).take (begL ls k + f) = joinL (ls.take k ++ [x.take f])
  | [], k, x, f, h, _ => by simp at h
  | y :: r, 0, x, f, h, hf => by
    obtain rfl : y = x := by simpa using h
    rw [begL_zero, Nat.zero_add, List.take_zero, List.nil_append]
    show _ = y.take f
    cases r with
    | nil => rfl
    | cons z q => rw [joinL_cons y (by simp), List.take_append_of_le_length hf]
  | y :: r, k + 1, x, f, h, hf => by
    have h' : r[k]? = some x := by simpa using h
    have hr : r ≠ [] := fun e => by rw [e] at h'; simp at h'
    have e : begL (y :: r) (k + 1) = (y.length + 1) + begL r k := by
      unfold begL; rw [List.take_succ_cons, List.map_cons, List.sum_cons]
    rw [e, joinL_cons y hr, List.take_succ_cons, List.cons_append, joinL_cons y (by simp), ← take_at r k x f h' hf]
    rw [show y.length + 1 + begL r k + f = y.length + ((begL r k + f) + 1) by omega, List.take_append, List.take_of_length_le (by omega)]
    rw [show y.length + (begL r k + f + 1) - y.length = begL r k + f + 1 by omega, List.take_succ_cons]
theorem drop_at : ∀ (ls : List (List UInt8)) (k : Nat) (x : List UInt8) (f : Nat), ls[k]? = some x → f ≤ x.length → (joinL ls).drop (begL ls k + f) = joinL (x.drop f :: ls.drop (k + 1))
  | [], k, x, f, h, _ => by simp at h
  | y :: r, 0, x, f, h, hf => by
    obtain rfl : y = x := by simpa using h
    rw [begL_zero, Nat.zero_add]
    show _ = joinL (y.drop f :: r)
    cases r with
    | nil => rfl
    | cons z q => rw [joinL_cons y (by simp), joinL_cons (y.drop f) (by simp), List.drop_append_of_le_length hf]
  | y :: r, k + 1, x, f, h, hf => by
    have h' : r[k]? = some x := by simpa using h
    have hr : r ≠ [] := fun e => by rw [e] at h'; simp at h'
    have e : begL (y :: r) (k + 1) = (y.length + 1) + begL r k := by
      unfold begL; rw [List.take_succ_cons, List.map_cons, List.sum_cons]
    rw [e, joinL_cons y hr, List.drop_succ_cons, ← drop_at r k x f h' hf]
    rw [show y.length + 1 + begL r k + f = y.length + ((begL r k + f) + 1) by omega, List.drop_append, List.drop_eq_nil_of_le (show y.length ≤ _ by omega), List.nil_append]
    rw [show y.length + (begL r k + f + 1) - y.length = begL r k + f + 1 by omega, List.drop_succ_cons]

/-! ### A splice -/
/-- The text behind a splice. -/
def splT (T : List UInt8) (a n : Nat) (s : List UInt8) : List UInt8 := T.take a ++ s ++ T.drop (a + n)
theorem splT_len {T s : List UInt8} {a n : Nat} (h : a + n ≤ T.length) : (splT T a n s).length = T.length - n + s.length := by
  unfold splT
  simp only [List.length_append, List.length_take, List.length_drop]
  omega
/-- What a splice changes: from which line on, how many, the text of those that stand there then. -/
def frL (T : List UInt8) (a : Nat) : Nat := (findL (splitL T) a).1
def olL (T : List UInt8) (a n : Nat) : Nat := frL T (a + n) - frL T a + 1
def midT (T : List UInt8) (a n : Nat) (s : List UInt8) : List UInt8 :=
  ((splitL T).getD (frL T a) []).take (findL (splitL T) a).2 ++ s ++ ((splitL T).getD (frL T (a + n)) []).drop (findL (splitL T) (a + n)).2
/-- A place's line is how many line ends are ahead of it. -/
theorem count_join : ∀ (ls : List (List UInt8)), (∀ x ∈ ls, (10 : UInt8) ∉ x) → (joinL ls).count 10 = ls.length - 1
  | [], _ => rfl
  | [x], h => by simpa [joinL] using List.count_eq_zero.2 (h x (by simp))
  | x :: y :: r, h => by
    rw [joinL_cons x (by simp), List.count_append, List.count_eq_zero.2 (h x (by simp)), List.count_cons_self, count_join (y :: r) (fun z hz => h z (List.mem_cons_of_mem _ hz))]
    simp
theorem spec_at (T : List UInt8) (a : Nat) (ha : a ≤ T.length) : ∃ x, (splitL T)[frL T a]? = some x ∧ (findL (splitL T) a).2 ≤ x.length ∧ begL (splitL T) (frL T a) + (findL (splitL T) a).2 = a := by
  have h := findL_spec (splitL T) a (splitL_ne T) (by rw [join_split]; exact ha)
  exact h
theorem frL_count (T : List UInt8) (a : Nat) (ha : a ≤ T.length) : frL T a = (T.take a).count 10 := by
  obtain ⟨x, hx, hf, he⟩ := spec_at T a ha
  have h := take_at (splitL T) (frL T a) x _ hx hf
  rw [join_split, he] at h
  have hlt := (List.getElem?_eq_some_iff.1 hx).1
  have hno : ∀ z ∈ (splitL T).take (frL T a) ++ [x.take (findL (splitL T) a).2], (10 : UInt8) ∉ z := by
    intro z hz
    rcases List.mem_append.1 hz with h1 | h1
    · exact splitL_no T z (List.mem_of_mem_take h1)
    · rw [List.mem_singleton.1 h1]
      exact fun e => splitL_no T x (List.mem_of_getElem? hx) (List.mem_of_mem_take e)
  rw [h, count_join _ hno]
  simp only [List.length_append, List.length_take, List.length_singleton]
  omega
theorem frL_mono (T : List UInt8) {a b : Nat} (h : a ≤ b) (hb : b ≤ T.length) : frL T a ≤ frL T b := by
  rw [frL_count T a (by omega), frL_count T b hb]
  have : T.take a = (T.take b).take a := by rw [List.take_take, Nat.min_eq_left h]
  rw [this]
  exact (List.take_sublist _ _).count_le 10
theorem frL_lt (T : List UInt8) {a : Nat} (ha : a ≤ T.length) : frL T a < (splitL T).length := by
  obtain ⟨x, hx, _⟩ := spec_at T a ha
  exact (List.getElem?_eq_some_iff.1 hx).1
/-- THE LINES BEHIND A SPLICE. -/
theorem splT_lines (T : List UInt8) (a n : Nat) (s : List UInt8) (h : a + n ≤ T.length) :
    splitL (splT T a n s) = (splitL T).take (frL T a) ++ splitL (midT T a n s) ++ (splitL T).drop (frL T a + olL T a n) := by
  obtain ⟨x, hx, hf, he⟩ := spec_at T a (by omega)
  obtain ⟨y, hy, hg, hd⟩ := spec_at T (a + n) h
  have hm := frL_mono T (show a ≤ a + n by omega) h
  have hol : frL T a + olL T a n = frL T (a + n) + 1 := by unfold olL; omega
  have gx : (splitL T).getD (frL T a) [] = x := by rw [List.getD_eq_getElem?_getD, hx]; rfl
  have gy : (splitL T).getD (frL T (a + n)) [] = y := by rw [List.getD_eq_getElem?_getD, hy]; rfl
  have hT : splT T a n s = joinL ((splitL T).take (frL T a) ++ splitL (midT T a n s) ++ (splitL T).drop (frL T a + olL T a n)) := by
    have t1 := take_at (splitL T) _ x _ hx hf
    have t2 := drop_at (splitL T) _ y _ hy hg
    rw [join_split, he] at t1
    rw [join_split, hd] at t2
    rw [joinL_mid _ _ _ (splitL_ne _), join_split, hol]
    unfold splT midT
    rw [gx, gy, t1, t2, ← joinL_snoc, ← joinL_snoc]
    cases hB : (splitL T).drop (frL T (a + n) + 1) with
    | nil => rw [List.append_nil]; simp [joinL]
    | cons b B =>
      rw [joinL_cons (y.drop _) (by simp), joinL_app (_ ++ [_]) (b :: B) (by simp) (by simp)]
      simp only [joinL_snoc, List.append_assoc]
  rw [hT, split_join]
  · simp [splitL_ne]
  · intro z hz
    rw [List.append_assoc] at hz
    rcases List.mem_append.1 hz with h1 | h1
    · exact splitL_no T z (List.mem_of_mem_take h1)
    · rcases List.mem_append.1 h1 with h2 | h2
      · exact splitL_no _ z h2
      · exact splitL_no T z (List.mem_of_mem_drop h2)
theorem midT_len (T : List UInt8) (a n : Nat) (s : List UInt8) (h : a + n ≤ T.length) : (splitL (midT T a n s)).length = s.count 10 + 1 := by
  obtain ⟨x, hx, hf, he⟩ := spec_at T a (by omega)
  obtain ⟨y, hy, hg, hd⟩ := spec_at T (a + n) h
  have gx : (splitL T).getD (frL T a) [] = x := by rw [List.getD_eq_getElem?_getD, hx]; rfl
  have gy : (splitL T).getD (frL T (a + n)) [] = y := by rw [List.getD_eq_getElem?_getD, hy]; rfl
  rw [splitL_len]
  unfold midT
  rw [gx, gy, List.count_append, List.count_append, List.count_eq_zero.2 (fun e => splitL_no T x (List.mem_of_getElem? hx) (List.mem_of_mem_take e)), List.count_eq_zero.2 (fun e => splitL_no T y (List.mem_of_getElem? hy) (List.mem_of_mem_drop e))]
  omega
theorem midT_size (T : List UInt8) (a n : Nat) (s : List UInt8) (h : a + n ≤ T.length) : (midT T a n s).length ≤ T.length + s.length := by
  have e : ∀ (ls : List (List UInt8)) (x : List UInt8), x ∈ ls → x.length ≤ (joinL ls).length := by
    intro ls
    induction ls with
    | nil => intro x hx; cases hx
    | cons y r ih =>
      intro x hx
      rcases List.mem_cons.1 hx with rfl | h1
      · cases r with
        | nil => exact Nat.le_refl _
        | cons z q => rw [joinL_cons _ (by simp)]; simp
      · have hr : r ≠ [] := fun e => by rw [e] at h1; cases h1
        have := ih x h1
        rw [joinL_cons _ hr]; simp; omega
  obtain ⟨x, hx, hf, he⟩ := spec_at T a (by omega)
  obtain ⟨y, hy, hg, hd⟩ := spec_at T (a + n) h
  have hm := frL_mono T (show a ≤ a + n by omega) h
  have hl := congrArg List.length (splT_lines T a n s h)
  have hsz := splT_len (s := s) h
  have e1 := e (splitL (splT T a n s)) 
  have key : (joinL (splitL (midT T a n s))).length ≤ (joinL (splitL (splT T a n s))).length := by
    rw [splT_lines T a n s h]
    have q : ∀ (A M B : List (List UInt8)), M ≠ [] → (joinL M).length ≤ (joinL (A ++ M ++ B)).length := by
      intro A M B hM
      rw [joinL_mid A M B hM]
      exact e (A ++ [joinL M] ++ B) (joinL M) (by simp)
    exact q _ _ _ (splitL_ne _)
  rw [join_split, join_split, hsz] at key
  omega

/-! ### The library's words -/
theorem split_lib : ∀ s : List UInt8, Lib.splitK [10] 0 (Lib.count s [10]) s = splitL s
  | [] => by
    have h0 : Lib.count ([] : List UInt8) [10] = 0 := by rw [Lib.count_one]; rfl
    rw [h0]; rfl
  | b :: r => by
    have ih := split_lib r
    by_cases hb : b = 10
    · subst hb
      rw [Lib.count_cons_eq, Nat.add_comm]
      unfold Lib.splitK
      have hi : Lib.index (10 :: r) [10] = 0 := by simp [Lib.index]
      rw [hi, if_neg (by decide)]
      unfold splitL
      rw [if_pos rfl, ← ih]
      rfl
    · rw [Lib.count_cons_ne b 10 r hb]
      unfold splitL
      rw [if_neg hb, ← ih]
      have hpre : ([10] : List UInt8).isPrefixOf (b :: r) = false := by
        show ((10 : UInt8) == b && _) = false
        rw [show ((10 : UInt8) == b) = false from beq_false_of_ne fun e => hb e.symm]
        rfl
      cases hk : Lib.count r [10] with
      | zero => rfl
      | succ k =>
        conv => lhs; unfold Lib.splitK
        conv => rhs; unfold Lib.splitK
        have hne : ¬ (Lib.index r [10] == -1) = true := fun e => by
          have := Lib.count_miss (beq_iff_eq.1 e); omega
        have hir : Lib.index (b :: r) [10] = Lib.index r [10] + 1 := by
          conv => lhs; unfold Lib.index
          rw [if_neg (by rw [hpre]; decide), if_neg hne]
        have hge : 0 ≤ Lib.index r [10] := by
          have := @idx_ge r
          rcases this with h | h
          · exact absurd (beq_iff_eq.2 h) hne
          · exact h
        rw [if_neg hne, hir, if_neg (by simp; omega)]
        have e1 : (Lib.index r [10] + 1).toNat = (Lib.index r [10]).toNat + 1 := by omega
        rw [e1]
        simp only [Nat.add_zero, List.take_succ_cons, List.headD_cons, List.tail_cons, List.length_singleton, List.drop_succ_cons]
where
  idx_ge {r : List UInt8} : Lib.index r [10] = -1 ∨ 0 ≤ Lib.index r [10] := by
    induction r with
    | nil => left; rfl
    | cons b r ih =>
      unfold Lib.index
      split
      · right; decide
      · split
        · left; rfl
        · right; rcases ih with h | h
          · rename_i h2; exact absurd (beq_iff_eq.2 h) h2
          · omega
/-- A text's lines as bytes. -/
theorem splitB_lib (s : ByteArray) : (Lib.splitB ⟨#[10]⟩ 0 (Lib.countB s ⟨#[10]⟩) s).map (·.data.toList) = splitL s.data.toList := by
  rw [Lib.splitB_data, ← split_lib]
end Go.Proofs.YtdgffpcbpilkcaaGreatDoor

/- A lexer in memory: its lines, their tokens, how many were lexed; the ground that it stands on. -/
namespace Go.Proofs.YtdgffpcbpilkcaaGreatDoor
open Go Go.RowKit Go.Shelf
attribute [local go_sem] Oper.semAt_some

/-- A line: its text, and its tokens' slice. -/
structure Ln where
  text : List UInt8
  a : Option Addr
  l : Nat
  c : Nat
deriving Inhabited
abbrev Ln.toksV (e : Ln) : Value := .slice e.a e.l e.c
def lnL (e : Ln) : List Value := [.string (bs e.text), .slice e.a e.l e.c]
def lnsL (E : List Ln) : List Value := E.flatMap lnL
theorem lnsL_len : ∀ E : List Ln, (lnsL E).length = E.length * 2
  | [] => rfl
  | t :: L => by
    show (lnL t ++ lnsL L).length = _
    rw [List.length_append, lnsL_len L]
    simp [lnL]
    omega
theorem lnsL_app (A B : List Ln) : lnsL (A ++ B) = lnsL A ++ lnsL B := by simp [lnsL]
theorem lnsL_snoc (L : List Ln) (t : Ln) : lnsL (L ++ [t]) = lnsL L ++ lnL t := by simp [lnsL]
theorem lnsL_get : ∀ (L : List Ln) (j i : Nat) (t : Ln), L[j]? = some t → i < 2 → (lnsL L)[j * 2 + i]? = (lnL t)[i]?
  | [], _, _, _, h, _ => by simp at h
  | x :: L, 0, i, t, h, hi => by
    obtain rfl : x = t := by simpa using h
    show (lnL x ++ lnsL L)[0 * 2 + i]? = _
    rw [List.getElem?_append_left (by simp [lnL]; omega)]
    simp
  | x :: L, j + 1, i, t, h, hi => by
    show (lnL x ++ lnsL L)[(j + 1) * 2 + i]? = _
    rw [List.getElem?_append_right (by simp [lnL]; omega)]
    have e : (j + 1) * 2 + i - (lnL x).length = j * 2 + i := by simp [lnL]; omega
    rw [e]
    exact lnsL_get L j i t (by simpa using h) hi
theorem lnsL_take : ∀ (L : List Ln) (k : Nat), (lnsL L).take (k * 2) = lnsL (L.take k)
  | [], k => by simp [lnsL]
  | x :: L, 0 => by simp [lnsL]
  | x :: L, k + 1 => by
    show (lnL x ++ lnsL L).take ((k + 1) * 2) = lnL x ++ lnsL (L.take k)
    rw [List.take_append, List.take_of_length_le (by simp [lnL]; omega), ← lnsL_take L k]
    congr 2
    simp [lnL]; omega
theorem lnsL_drop : ∀ (L : List Ln) (k : Nat), (lnsL L).drop (k * 2) = lnsL (L.drop k)
  | [], k => by simp [lnsL]
  | x :: L, 0 => by simp [lnsL]
  | x :: L, k + 1 => by
    show (lnL x ++ lnsL L).drop ((k + 1) * 2) = lnsL (L.drop k)
    rw [List.drop_append, List.drop_eq_nil_of_le (by simp [lnL]; omega), ← lnsL_drop L k, List.nil_append]
    congr 1
    simp [lnL]; omega
theorem lnL_one (t : Ln) : ∀ u ∈ lnL t, u.oneCell' = true := by
  intro u hu
  simp [lnL] at hu
  rcases hu with rfl | rfl <;> rfl
theorem lnsL_one : ∀ (E : List Ln), ∀ u ∈ lnsL E, u.oneCell' = true
  | [], u, hu => by cases hu
  | t :: E, u, hu => by
    rcases List.mem_append.1 (show u ∈ lnL t ++ lnsL E from hu) with h | h
    · exact lnL_one t u h
    · exact lnsL_one E u h

theorem Tryz.infoLine : (Tryz.prog.info? 90).map (fun i => (i.zero, i.size, i.bytes)) = some (some (.agg #[.string ⟨#[]⟩, .slice none 0 0]), 2, 40) := by kernel_rfl
theorem info_line : ∃ i, Tryz.prog.info? 90 = some i ∧ i.zero = some (.agg #[.string ⟨#[]⟩, .slice none 0 0]) ∧ i.size = 2 ∧ i.bytes = 40 := by
  have h := Tryz.infoLine
  cases hi : Tryz.prog.info? 90 with
  | none => rw [hi] at h; cases h
  | some i =>
    rw [hi] at h
    simp at h
    exact ⟨i, rfl, h.1, h.2.1, h.2.2⟩

/-- EACH LINE's TOKENS are what its text gives, in memory of the lexer's own. -/
def Toked (W : World) (base : Nat) (E : List Ln) : Prop := ∀ e ∈ E, OwnL W base e.toksV (toks st e.text 0)
/-- THE SLICE v (of block b) HOLDS the lines E. -/
abbrev OwnE (W : World) (base : Nat) (v : Value) (E : List Ln) : Prop := W.ownsRow base 90 2 v E.length (lnsL E)

/-- A LEXER AT X: its lines lie in block b; n were lexed. -/
structure Lx (W : World) (base X b : Nat) (T : List UInt8) (n : Nat) : Prop where
  small : T.length ≤ 4000
  baseX : base ≤ X
  ex : ∃ E cap, Row W X 65 #[.slice (some ⟨b, 0, none⟩) E.length cap, .int .i64 (n : Int)] ∧ OwnE W base (.slice (some ⟨b, 0, none⟩) E.length cap) E ∧ E.map (·.text) = splitL T ∧ Toked W base E

/-- What a call on a lexer turns: its own cells alone. -/
structure Off (X b : Nat) (W W' : World) : Prop where
  os : W'.os = W.os
  tape : W'.tape = W.tape
  output : W'.output = W.output
  size : W.heap.size ≤ W'.heap.size
  block : ∀ k, k < W.heap.size → k ≠ X → k ≠ b → W'.heap[k]? = W.heap[k]?
theorem Off.below {X b n : Nat} {W W' : World} (h : Off X b W W') (hn : n ≤ W.heap.size) (hX : n ≤ X) (hb : n ≤ b) : Below n W W' :=
  ⟨h.os, h.tape, h.output, h.size, fun k hk => h.block k (by omega) (by omega) (by omega)⟩
theorem Off.of_below {X b : Nat} {W W' : World} (h : Below W.heap.size W W') : Off X b W W' :=
  ⟨h.os, h.tape, h.output, h.size, fun k hk _ _ => h.block k hk⟩
theorem Off.refl (X b : Nat) (W : World) : Off X b W W := ⟨rfl, rfl, rfl, Nat.le_refl _, fun _ _ _ _ => rfl⟩
theorem Off.trans {X b : Nat} {A B C : World} (h : Off X b A B) (k : Off X b B C) : Off X b A C :=
  ⟨k.os.trans h.os, k.tape.trans h.tape, k.output.trans h.output, Nat.le_trans h.size k.size, fun i hi h1 h2 => (k.block i (Nat.lt_of_lt_of_le hi h.size) h1 h2).trans (h.block i hi h1 h2)⟩
theorem Off.trans' {X b b' : Nat} {A B C : World} (h : Off X b A B) (k : Off X b' B C) (hb : b' = b ∨ A.heap.size ≤ b') : Off X b A C :=
  ⟨k.os.trans h.os, k.tape.trans h.tape, k.output.trans h.output, Nat.le_trans h.size k.size, fun i hi h1 h2 => (k.block i (Nat.lt_of_lt_of_le hi h.size) h1 (by rcases hb with e | e <;> omega)).trans (h.block i hi h1 h2)⟩
theorem Off.setCell {X b j : Nat} {W W' : World} (h : Off X b W W') (v : Value) : Off X b W (W'.setCell ⟨X, j, none⟩ v) :=
  ⟨h.os, h.tape, h.output, by rw [World.size_setCell]; exact h.size, fun k hk h1 h2 => (Below.heap_setCell W' ⟨X, j, none⟩ v k h1).trans (h.block k hk h1 h2)⟩

theorem ownsRow_mono {W : World} {base base' size n : Nat} {t : TypeId} {v : Value} {xs : List Value} (h : W.ownsRow base t size v n xs) (hb : base' ≤ base) : W.ownsRow base' t size v n xs :=
  ⟨h.1, h.2.imp id fun ⟨g, cap, cur, h1, h2, h3⟩ => ⟨g, cap, cur, h1, Nat.le_trans hb h2, h3⟩⟩
/-- Owned rows over worlds that keep their block. -/
theorem ownsRow_keep {W W' : World} {base size n : Nat} {t : TypeId} {v : Value} {xs : List Value} (h : W.ownsRow base t size v n xs) (hb : ∀ k, v.ownBlock = some k → W'.heap[k]? = W.heap[k]?) : W'.ownsRow base t size v n xs := by
  refine ⟨h.1, ?_⟩
  rcases h.2 with hn | ⟨g, cap, cur, e1, e2, e3, e4⟩
  · exact .inl hn
  · exact .inr ⟨g, cap, cur, e1, e2, (hb g (by rw [e1]; rfl)).trans e3, e4⟩
theorem ownsRow_lt {W : World} {base size n : Nat} {t : TypeId} {v : Value} {xs : List Value} (h : W.ownsRow base t size v n xs) {k : Nat} (hk : v.ownBlock = some k) : k < W.heap.size := (h.lt k hk).2
theorem ownsRow_at {W : World} {base size n : Nat} {t : TypeId} {v : Value} {xs : List Value} (h : W.ownsRow base t size v n xs) {k : Nat} (hk : v.ownBlock = some k) : ∃ cur, W.heap[k]? = some (.cells cur t (0, 0)) := by
  rcases h.2 with ⟨e, _⟩ | ⟨g, cap, cur, e1, e2, e3, _⟩
  · rw [e] at hk; cases hk
  · rw [e1] at hk; cases hk; exact ⟨cur, e3⟩
theorem Toked.below {W W' : World} {base : Nat} {E : List Ln} (h : Toked W base E) (hb : Below W.heap.size W W') : Toked W' base E :=
  fun e he => ownsRow_keep (h e he) (fun k hk => hb.block k (ownsRow_lt (h e he) hk))
/-- .. but for blocks that hold no tokens. -/
theorem Toked.off {W W' : World} {base X b : Nat} {E : List Ln} (h : Toked W base E) (hb : Off X b W W') {cX cb : Array Value} {tX tb : TypeId} (hX : ∀ o, W.heap[X]? = some o → o = .cells cX tX (0, 0)) (hbb : ∀ o, W.heap[b]? = some o → o = .cells cb tb (0, 0)) (h1 : tX ≠ 55) (h2 : tb ≠ 55) : Toked W' base E :=
  fun e he => ownsRow_keep (h e he) (fun k hk => by
    obtain ⟨cur, hc⟩ := ownsRow_at (h e he) hk
    refine hb.block k (ownsRow_lt (h e he) hk) (fun e => ?_) (fun e => ?_)
    · subst e; have := hX _ hc; injection this with _ e2 _; exact h1 e2.symm
    · subst e; have := hbb _ hc; injection this with _ e2 _; exact h2 e2.symm)
theorem Toked.mono {W : World} {base base' : Nat} {E : List Ln} (h : Toked W base E) (hb : base' ≤ base) : Toked W base' E := fun e he => ownsRow_mono (h e he) hb
theorem Lx.below {W W' : World} {base X b : Nat} {T : List UInt8} {n : Nat} (h : Lx W base X b T n) (hb : Below W.heap.size W W') : Lx W' base X b T n := by
  obtain ⟨E, cap, h1, h2, h3, h4⟩ := h.ex
  exact ⟨h.small, h.baseX, E, cap, h1.below hb h1.lt, ownsRow_keep h2 (fun k hk => hb.block k (ownsRow_lt h2 hk)), h3, h4.below hb⟩
theorem Lx.mono {W : World} {base base' X b : Nat} {T : List UInt8} {n : Nat} (h : Lx W base X b T n) (hb : base' ≤ base) : Lx W base' X b T n := by
  obtain ⟨E, cap, h1, h2, h3, h4⟩ := h.ex
  exact ⟨h.small, Nat.le_trans hb h.baseX, E, cap, h1, ownsRow_mono h2 hb, h3, h4.mono hb⟩
theorem Lx.ltX {W : World} {base X b : Nat} {T : List UInt8} {n : Nat} (h : Lx W base X b T n) : X < W.heap.size := by
  obtain ⟨E, cap, h1, _⟩ := h.ex
  exact h1.lt
theorem Lx.ltb {W : World} {base X b : Nat} {T : List UInt8} {n : Nat} (h : Lx W base X b T n) : b < W.heap.size ∧ base ≤ b ∧ X ≠ b := by
  obtain ⟨E, cap, h1, h2, _⟩ := h.ex
  have h3 := h2.lt b rfl
  refine ⟨h3.2, h3.1, fun e => ?_⟩
  obtain ⟨cur, hc⟩ := ownsRow_at h2 (k := b) rfl
  subst e
  rw [show W.heap[X]? = _ from h1] at hc
  cases hc
/-- Another lexer's calls. -/
theorem Lx.off {W W' : World} {base X b Y c : Nat} {T : List UInt8} {n : Nat} (h : Lx W base X b T n) (hb : Off Y c W W') (h1 : X ≠ Y) (h2 : b ≠ c) (h3 : ∀ o, W.heap[Y]? = some o → ∃ cX, o = .cells cX 65 (0, 0)) (h4 : ∀ o, W.heap[c]? = some o → ∃ cX, o = .cells cX 90 (0, 0)) : Lx W' base X b T n := by
  obtain ⟨E, cap, r1, r2, r3, r4⟩ := h.ex
  refine ⟨h.small, h.baseX, E, cap, ?_, ownsRow_keep r2 (fun k hk => ?_), r3, fun e he => ownsRow_keep (r4 e he) (fun k hk => ?_)⟩
  · refine (hb.block X r1.lt h1 (fun e => ?_)).trans r1
    subst e
    obtain ⟨cX, hc⟩ := h4 _ r1
    cases hc
  · cases hk
    refine hb.block b h.ltb.1 (fun e => ?_) h2
    obtain ⟨cur, hc⟩ := ownsRow_at r2 (k := b) rfl
    obtain ⟨cX, hc2⟩ := h3 _ (e ▸ hc)
    cases hc2
  · obtain ⟨cur, hc⟩ := ownsRow_at (r4 e he) hk
    refine hb.block k (ownsRow_lt (r4 e he) hk) (fun e => ?_) (fun e => ?_)
    · obtain ⟨cX, hc2⟩ := h3 _ (e ▸ hc)
      cases hc2
    · obtain ⟨cX, hc2⟩ := h4 _ (e ▸ hc)
      cases hc2

/-- What the lines' slice gives: each line's two cells. -/
theorem ownE_cells {W : World} {base b cap : Nat} {E : List Ln} (h : OwnE W base (.slice (some ⟨b, 0, none⟩) E.length cap) E) :
    E.length ≤ cap ∧ cap ≤ maxLen ∧ b < W.heap.size ∧ ∀ j e, E[j]? = some e → W.cell? ⟨b, j * 2, none⟩ = some (.string (bs e.text)) ∧ W.cell? ⟨b, j * 2 + 1, none⟩ = some (.slice e.a e.l e.c) := by
  have hl := (h.lt b rfl).2
  rcases h.2 with ⟨e, _⟩ | ⟨g, cap', cur, e1, e2, e3, e4, e5, _⟩
  · cases e
  · cases e1
    refine ⟨e4, e5, hl, fun j e hj => ?_⟩
    have hjl : j < E.length := (List.getElem?_eq_some_iff.1 hj).1
    have key : ∀ i, i < 2 → W.cell? ⟨b, j * 2 + i, none⟩ = (lnL e)[i]? := fun i hi => by
      rw [World.ownsRow.cellAt h (j * 2 + i) (by omega)]
      exact lnsL_get E j i e hj hi
    exact ⟨key 0 (by omega), key 1 (by omega)⟩

/-- THE SENTINELS, each its own; the tables; what the library looks at: all below n₀. -/
structure RG (n₀ : Nat) (W : World) : Prop where
  lg : LG W
  glt : 5 < n₀ ∧ 3 < n₀ ∧ 4 < n₀ ∧ 6 ≤ n₀
  mx : ∃ m : Int, W.cell? ⟨2, 0, none⟩ = some (.int .i64 m)
  sn : ∃ aR aF : Addr, W.cell? ⟨0, 0, none⟩ = some (.iface 193 (.pointer (some aR))) ∧ W.cell? ⟨1, 0, none⟩ = some (.iface 193 (.pointer (some aF))) ∧
    aR ≠ aF ∧ (∃ c t, W.heap[aR.block]? = some (.cells c t (0, 0))) ∧ (∃ c t, W.heap[aF.block]? = some (.cells c t (0, 0))) ∧ aR.block < n₀ ∧ aF.block < n₀
  le : n₀ ≤ W.heap.size
theorem RG.below {n₀ n₁ : Nat} {W W' : World} (h : RG n₀ W) (hb : Below n₁ W W') (hn : n₀ ≤ n₁) : RG n₀ W' := by
  obtain ⟨g1, g2, g3, g4⟩ := h.glt
  obtain ⟨m, hm⟩ := h.mx
  obtain ⟨aR, aF, c1, c2, hne, ⟨x1, t1, b1⟩, ⟨x2, t2, b2⟩, l1, l2⟩ := h.sn
  have hb' := hb.mono hn
  refine ⟨h.lg.belowN hb' g1 g2 g3, h.glt, ⟨m, (hb'.cell (p := ⟨2, 0, none⟩) (by dsimp only; omega)).trans hm⟩, ⟨aR, aF, ?_, ?_, hne, ⟨x1, t1, (hb'.block _ l1).trans b1⟩, ⟨x2, t2, (hb'.block _ l2).trans b2⟩, l1, l2⟩, Nat.le_trans h.le hb.size⟩
  · exact (hb'.cell (p := ⟨0, 0, none⟩) (by dsimp only; omega)).trans c1
  · exact (hb'.cell (p := ⟨1, 0, none⟩) (by dsimp only; omega)).trans c2
end Go.Proofs.YtdgffpcbpilkcaaGreatDoor

/- A line's tokens, as the program tells them. -/
namespace Go.Proofs.YtdgffpcbpilkcaaGreatDoor
open Go Go.RowKit Go.Shelf
attribute [local go_sem] Oper.semAt_some

theorem collect_c (T : List UInt8) (hT : T.length ≤ 10000) (Bs : Nat) (w : World) (hG : LG w) (hBs : Row w Bs 9 #[.string (bs T)]) :
    Calls Tryz.prog 74 #[.func (.func 83) #[] #[.pointer (some ⟨Bs, 0, none⟩)]] w fun e W' => ∃ v, e = .returned v ∧ OwnL W' w.heap.size v (toks st T 0) ∧ Below w.heap.size w W' := by
  have HA := Lib.hid (appendSeq_c T hT Bs w hG hBs)
  clear hG hBs
  go_enter Tryz.func74, Tryz.ntmps74
  go_wp2_with (go_at_call 82; refine HA.out.mono ?_; rintro e w1 ⟨v, rfl, hv1, hb1⟩; have HV1 := Lib.hid hv1; have HB1 := Lib.hid hb1; clear hv1 hb1)
  go_ret
  exact ⟨v, rfl, HV1.out, HB1.out⟩

/-- Line(s). -/
theorem line_own (T : List UInt8) (hT : T.length ≤ 10000) (w : World) (hG : LG w) :
    Calls Tryz.prog 63 #[.string (bs T)] w fun e W' => ∃ v, e = .returned v ∧ OwnL W' (w.heap.size + 1) v (toks st T 0) ∧ Below w.heap.size w W' := by
  have hb0 : Below w.heap.size w (w.alloc (.cells #[.string (bs T)] 9)) := (Below.refl _ w).alloc (Nat.le_refl _) _
  have HC := Lib.hid (collect_c T hT w.heap.size (w.alloc (.cells #[.string (bs T)] 9)) (hG.below hb0) (Row.new _ _ _))
  have HT := Lib.hid (tokens_c (bs T) w)
  have HB0 := Lib.hid hb0
  clear hG hb0
  go_enter Tryz.func63, Tryz.ntmps63
  go_wp2_with (first
    | (go_at_call 75; refine HT.out.mono ?_; rintro e w1 ⟨rfl, rfl⟩)
    | (go_at_call 74; refine HC.out.mono ?_; rintro e w2 ⟨v, rfl, hv2, hb2⟩; have HV2 := Lib.hid hv2; have HB2 := Lib.hid hb2; clear hv2 hb2))
  go_ret
  refine ⟨v, rfl, ?_, HB0.out.trans (HB2.out.mono (by simp))⟩
  have := HV2.out
  rw [World.size_alloc] at this
  exact this
theorem toks_max {T : List UInt8} (hT : T.length ≤ 10000) : (toks st T 0).length ≤ maxLen := by
  have := toks_len st st_ok T.length T (Nat.le_refl _)
  unfold maxLen
  omega
theorem line_c (T : List UInt8) (hT : T.length ≤ 10000) (w : World) (hG : LG w) :
    Calls Tryz.prog 63 #[.string (bs T)] w fun e W' => ∃ v, e = .returned v ∧ TL W' v (toks st T 0) ∧ Below w.heap.size w W' :=
  (line_own T hT w hG).mono fun _ _ ⟨v, h1, h2, h3⟩ => ⟨v, h1, OwnL.tl (toks_max hT) h2, h3⟩
end Go.Proofs.YtdgffpcbpilkcaaGreatDoor

/- The plain Same and Text, of tokens in memory. -/
namespace Go.Proofs.YtdgffpcbpilkcaaGreatDoor
open Go Go.RowKit Go.Shelf
attribute [local go_sem] Oper.semAt_some

theorem tk_ext {t u : Tk} (h1 : t.kind = u.kind) (h2 : t.text = u.text) (h3 : t.glyph = u.glyph) : t = u := by
  cases t; cases u; simp_all
theorem bs_ne {a b : List UInt8} (h : a ≠ b) : ((bs a).toList == (bs b).toList) = false := by
  rw [ByteArray.toList_eq, ByteArray.toList_eq, bs_list, bs_list]
  simpa using h

theorem sameUpTo {L M : List Tk} (hl : L.length = M.length) (h : ∀ j, j < L.length → L[j]? = M[j]?) : L = M :=
  List.ext_getElem? fun j => by
    rcases Nat.lt_or_ge j L.length with h1 | h1
    · exact h j h1
    · rw [List.getElem?_eq_none h1, List.getElem?_eq_none (by omega)]

def textOf (L : List Tk) : List UInt8 := L.flatMap (·.text)
theorem textOf_snoc (L : List Tk) (k : Nat) (t : Tk) (h : L[k]? = some t) : textOf (L.take (k + 1)) = textOf (L.take k) ++ t.text := by
  rw [List.take_add_one, h]
  simp [textOf]
theorem textOf_take (L : List Tk) (k : Nat) : (textOf (L.take k)).length ≤ (textOf L).length := by
  have h : textOf L = textOf (L.take k) ++ textOf (L.drop k) := by
    unfold textOf
    rw [← List.flatMap_append, List.take_append_drop]
  rw [h, List.length_append]
  omega
set_option maxRecDepth 100000 in
set_option maxHeartbeats 4000000 in
/-- The plain Same. -/
theorem rsame_c (v u : Value) (L M : List Tk) (w : World) (hL : TL w v L) (hM : TL w u M) :
    Calls Tryz.prog 21 #[v, u] w fun e W' => e = .returned (.bool (decide (L = M))) ∧ Below w.heap.size w W' := by
  have hmix : Tryz.prog.follows .mixedOrders = true := by kernel_rfl
  obtain ⟨a0, c0, rfl, hc1, hc2⟩ := hL.form
  obtain ⟨b0, d0, rfl, hd1, hd2⟩ := hM.form
  unfold maxLen at hc2 hd2
  have HCL := Lib.hid hL.cells
  have HCM := Lib.hid hM.cells
  obtain ⟨n, hn⟩ : ∃ n, n = L.length := ⟨_, rfl⟩
  obtain ⟨m, hm⟩ : ∃ m, m = M.length := ⟨_, rfl⟩
  rw [← hn] at hc1 HCL ⊢
  rw [← hm] at hd1 HCM ⊢
  have HN := Lib.hid hn
  have HM := Lib.hid hm
  clear hL hM hn hm
  by_cases hnm : n = m
  · subst hnm
    go_enter Tryz.func21, Tryz.ntmps21
    go_wp2
    go_loopw [5] (fun i wr => ∃ k : Nat, k ≤ n ∧ i = .int .i64 k ∧ Below w.heap.size w wr ∧ ∀ j, j < k → L[j]? = M[j]?)
      (fun i _ => n - (intOf i).toNat)
    case atStart => exact ⟨0, Nat.zero_le _, rfl, Below.refl _ _, fun j hj => by omega⟩
    case round =>
      obtain ⟨k, hk, rfl, hb1, hall⟩ := hrel
      have HB1 := Lib.hid hb1
      have HA := Lib.hid hall
      clear hb1 hall
      by_cases hlt : k < n
      · obtain ⟨g, o, c1, hv, hg, hcs⟩ := HCL.out (by omega)
        obtain ⟨g2, o2, c2, hv2, hg2, hcs2⟩ := HCM.out (by omega)
        obtain rfl : a0 = some ⟨g, o, none⟩ := by injection hv
        obtain rfl : b0 = some ⟨g2, o2, none⟩ := by injection hv2
        obtain ⟨t, ht⟩ : ∃ t, L[k]? = some t := ⟨_, List.getElem?_eq_getElem (by rw [← HN.out]; exact hlt)⟩
        obtain ⟨s, hs⟩ : ∃ s, M[k]? = some s := ⟨_, List.getElem?_eq_getElem (by rw [← HM.out]; exact hlt)⟩
        obtain ⟨x0, x1, x2⟩ := hcs k t ht
        obtain ⟨y0, y1, y2⟩ := hcs2 k s hs
        have hb := HB1.out
        have e0 := (hb.cell (p := ⟨g, o + k * 3, none⟩) hg).trans x0
        have e1 := (hb.cell (p := ⟨g, o + k * 3 + 1, none⟩) hg).trans x1
        have e2 := (hb.cell (p := ⟨g, o + k * 3 + 2, none⟩) hg).trans x2
        have f0 := (hb.cell (p := ⟨g2, o2 + k * 3, none⟩) hg2).trans y0
        have f1 := (hb.cell (p := ⟨g2, o2 + k * 3 + 1, none⟩) hg2).trans y1
        have f2 := (hb.cell (p := ⟨g2, o2 + k * 3 + 2, none⟩) hg2).trans y2
        have HTT := Lib.hid ht
        have HSS := Lib.hid hs
        clear hb hcs hcs2 x0 x1 x2 y0 y1 y2 hv hv2 hg hg2 ht hs
        by_cases hts : t = s
        · subst hts
          obtain ⟨kd, hkd⟩ : ∃ kd : Int, kd = (((t.kind : Nat)) : Int) := ⟨_, rfl⟩
          obtain ⟨U, hU⟩ : ∃ U, U = bs t.text := ⟨_, rfl⟩
          obtain ⟨G, hGl⟩ : ∃ G, G = bs t.glyph := ⟨_, rfl⟩
          rw [← hkd] at e0 f0
          rw [← hU] at e1 f1
          rw [← hGl] at e2 f2
          clear hkd hU hGl
          go_wp2_with fail
          go_quiet (fail)
          go_wp2_with fail
          go_roundw
          case rel =>
            refine ⟨k + 1, by omega, by simp, HB1.out.trans ⟨rfl, rfl, rfl, Nat.le_refl _, fun _ _ => rfl⟩, fun j hj => ?_⟩
            rcases Nat.lt_or_ge j k with h1 | h1
            · exact HA.out j h1
            · obtain rfl : j = k := by omega
              rw [HTT.out, HSS.out]
          case measure => simp [intOf]; omega
        · have hd : decide (L = M) = false := by
            simp only [decide_eq_false_iff_not]
            intro e
            have h1 := HTT.out
            rw [e, HSS.out] at h1
            exact hts (by injection h1 with h2; exact h2.symm)
          have HD := Lib.hid hd
          clear hd
          obtain ⟨ka, hka⟩ : ∃ ka : Int, ka = (((t.kind : Nat)) : Int) := ⟨_, rfl⟩
          obtain ⟨Ua, hUa⟩ : ∃ U, U = bs t.text := ⟨_, rfl⟩
          obtain ⟨Ga, hGa⟩ : ∃ G, G = bs t.glyph := ⟨_, rfl⟩
          obtain ⟨kb, hkb⟩ : ∃ ka : Int, ka = (((s.kind : Nat)) : Int) := ⟨_, rfl⟩
          obtain ⟨Ub, hUb⟩ : ∃ U, U = bs s.text := ⟨_, rfl⟩
          obtain ⟨Gb, hGb⟩ : ∃ G, G = bs s.glyph := ⟨_, rfl⟩
          rw [← hka] at e0
          rw [← hUa] at e1
          rw [← hGa] at e2
          rw [← hkb] at f0
          rw [← hUb] at f1
          rw [← hGb] at f2
          have hdn : Below w.heap.size w wr → ∀ q, Below w.heap.size w (wr.drewN q) := fun h q => h.trans ⟨rfl, rfl, rfl, Nat.le_refl _, fun _ _ => rfl⟩
          have HDN := Lib.hid (hdn HB1.out)
          by_cases hk1 : t.kind = s.kind
          · have hkk : kb = ka := by rw [hka, hkb, hk1]
            subst hkk
            by_cases hU1 : t.text = s.text
            · have hUU : Ub = Ua := by rw [hUa, hUb, hU1]
              subst hUU
              have hG1 : (Ga.toList == Gb.toList) = false := by
                rw [hGa, hGb]
                exact bs_ne (fun e => hts (tk_ext hk1 hU1 e))
              clear hk1 hU1 hka hUa hGa hkb hUb hGb hts hdn
              go_wp2_with fail
              go_quiet (fail)
              go_wp2_with fail
              go_ret
              exact ⟨by rw [HD.out]; rfl, HDN.out _⟩
            · have hU2 : (Ua.toList == Ub.toList) = false := by rw [hUa, hUb]; exact bs_ne hU1
              clear hk1 hU1 hka hUa hGa hkb hUb hGb hts hdn
              go_wp2_with fail
              go_quiet (fail)
              go_wp2_with fail
              go_ret
              exact ⟨by rw [HD.out]; rfl, HDN.out _⟩
          · have hk2 : (ka == kb) = false := by rw [hka, hkb]; simp; omega
            clear hk1 hka hUa hGa hkb hUb hGb hts hdn
            go_wp2_with fail
            go_quiet (fail)
            go_wp2_with fail
            go_ret
            exact ⟨by rw [HD.out]; rfl, HDN.out _⟩
      · obtain rfl : k = n := by omega
        have hd : decide (L = M) = true := by
          simp only [decide_eq_true_eq]
          exact sameUpTo (by rw [← HN.out, ← HM.out]) (fun j hj => HA.out j (by rw [HN.out]; exact hj))
        have HD := Lib.hid hd
        clear hd
        go_wp2
        go_ret
        exact ⟨by rw [HD.out]; rfl, HB1.out⟩
  · have hd : decide (L = M) = false := by
      simp only [decide_eq_false_iff_not]
      intro e
      exact hnm (by rw [HN.out, HM.out, e])
    have hne : ((n : Int) != (m : Int)) = true := by simp; omega
    rw [hd]
    clear hd
    go_enter Tryz.func21, Tryz.ntmps21
    go_wp2
    go_ret
    exact ⟨rfl, Below.refl _ _⟩
theorem bs_app (a b : List UInt8) : bs a ++ bs b = bs (a ++ b) := by
  have h : (bs a ++ bs b).data.toList = a ++ b := by
    rw [ByteArray.data_append]
    simp [bs]
  have := congrArg bs h
  rwa [bs_of] at this

set_option maxRecDepth 100000 in
set_option maxHeartbeats 4000000 in
theorem rtext_c (v : Value) (L : List Tk) (w : World) (hL : TL w v L) (hl : (textOf L).length ≤ 1000000) :
    Calls Tryz.prog 25 #[v] w fun e W' => e = .returned (.string (bs (textOf L))) ∧ W' = w := by
  obtain ⟨a0, c0, rfl, hc1, hc2⟩ := hL.form
  unfold maxLen at hc2
  have HCL := Lib.hid hL.cells
  obtain ⟨n, hn⟩ : ∃ n, n = L.length := ⟨_, rfl⟩
  rw [← hn] at hc1 HCL ⊢
  have HN := Lib.hid hn
  have HL := Lib.hid hl
  clear hL hn hl
  go_enter Tryz.func25, Tryz.ntmps25
  go_wp2
  go_loopw [3, 4] (fun u i wr => ∃ k : Nat, k ≤ n ∧ i = .int .i64 k ∧ u = .string (bs (textOf (L.take k))) ∧ wr = w)
    (fun _ i _ => n - (intOf i).toNat)
  case atStart => exact ⟨0, Nat.zero_le _, rfl, rfl, rfl⟩
  case round =>
    obtain ⟨k, hk, rfl, rfl, hw⟩ := hrel
    obtain rfl := hw
    by_cases hlt : k < n
    · obtain ⟨g, o, c1, hv, hg, hcs⟩ := HCL.out (by omega)
      obtain rfl : a0 = some ⟨g, o, none⟩ := by injection hv
      obtain ⟨t, ht⟩ : ∃ t, L[k]? = some t := ⟨_, List.getElem?_eq_getElem (by rw [← HN.out]; exact hlt)⟩
      obtain ⟨_, e1, _⟩ := hcs k t ht
      have hsn := textOf_snoc L k t ht
      have hlen := textOf_take L (k + 1)
      obtain ⟨U, hU⟩ : ∃ U, U = bs t.text := ⟨_, rfl⟩
      obtain ⟨S, hS⟩ : ∃ S, S = bs (textOf (L.take k)) := ⟨_, rfl⟩
      have hnx : S ++ U = bs (textOf (L.take (k + 1))) := by rw [hS, hU, bs_app, hsn]
      have hsz : S.size + U.size ≤ 1000000 := by
        have := HL.out
        rw [hsn, List.length_append] at hlen
        rw [hS, hU, bs_size, bs_size]
        omega
      rw [← hU] at e1
      rw [← hS]
      have HNX := Lib.hid hnx
      clear hcs hv ht hsn hlen hU hS hnx
      go_wp2
      go_roundw
      case rel => exact ⟨k + 1, by omega, by simp, by rw [← HNX.out], trivial⟩
      case measure => simp [intOf]; omega
    · obtain rfl : k = n := by omega
      have HT : Hid (textOf (L.take k) = textOf L) := Lib.hid (by rw [HN.out, List.take_length])
      go_wp2
      go_ret
      exact ⟨by rw [HT.out]; rfl, rfl⟩

end Go.Proofs.YtdgffpcbpilkcaaGreatDoor

/- The lines are gone through by a range over a function: the iterator's contract. -/
namespace Go.Proofs.YtdgffpcbpilkcaaGreatDoor
open Go Go.RowKit Go.Shelf
attribute [local go_sem] Oper.semAt_some

/-- Line k; where it begins. -/
def lnAt (E : List Ln) (k : Nat) : Ln := E.getD k default
theorem lnAt_of {E : List Ln} {k : Nat} (h : k < E.length) : E[k]? = some (lnAt E k) := by
  unfold lnAt; rw [List.getD_eq_getElem?_getD, List.getElem?_eq_getElem h]; rfl
def bgE (E : List Ln) (k : Nat) : Nat := begL (E.map (·.text)) k
theorem bgE_succ {E : List Ln} {k : Nat} (h : k < E.length) : bgE E (k + 1) = bgE E k + ((lnAt E k).text.length + 1) :=
  begL_succ (by rw [List.getElem?_map, lnAt_of h]; rfl)
theorem bgE_zero (E : List Ln) : bgE E 0 = 0 := begL_zero _
theorem bgE_le (E : List Ln) {j k : Nat} (h : j ≤ k) : bgE E j ≤ bgE E k := begL_le _ h
/-- What the iterator yields at a line: where it begins, and the line. -/
def encE (E : List Ln) {len : Nat} (x : Ix len) : Array Value := #[.int .i64 (bgE E x.1 : Int), .agg #[.string (bs (lnAt E x.1).text), .slice (lnAt E x.1).a (lnAt E x.1).l (lnAt E x.1).c]]
abbrev lnC (e : Ln) : Array Value := #[.string (bs e.text), .slice e.a e.l e.c]

set_option maxRecDepth 100000 in
set_option maxHeartbeats 2000000 in
/-- The iterator's closure: for every loop body that keeps what lay below n₀, and cells from n₁ on. -/
theorem leach1_in (F : Fence) (n : Nat) (h38 : F.fn 65) (hro : F.round = none) (hn : 1 ≤ n) (l Bp n₀ n₁ X b len cap : Nat) (E : List Ln) (hb : b < n₀) (hE : E.length = len) (hlen : len ≤ 1000000) (hoff : bgE E len ≤ 1000000)
    (J Jx : List (Ix len) → World → Prop) (b₀ : Nat) (hJ : AbidesFrom b₀ J)
    (hY : ∀ pre x W, J pre W → pre.length < len → YieldAt F (n - 1) Tryz.prog l (encE E x) W fun e W' =>
      (e = .returned (.bool true) ∧ J (pre ++ [x]) W' ∧ Keeps n₀ n₁ W W') ∨ (e = .returned (.bool false) ∧ Jx (pre ++ [x]) W'))
    (W : World) (h01 : n₀ ≤ n₁) (hn1 : n₁ ≤ W.heap.size) (hBp : W.cell? ⟨Bp, 0, none⟩ = some (.pointer (some ⟨X, 0, none⟩))) (hB : W.cell? ⟨X, 0, none⟩ = some (.slice (some ⟨b, 0, none⟩) len cap)) (hc : ∀ j e, E[j]? = some e → W.cell? ⟨b, j * 2, none⟩ = some (.string (bs e.text)) ∧ W.cell? ⟨b, j * 2 + 1, none⟩ = some (.slice e.a e.l e.c)) (h0 : J [] W) :
    CallsIn F n Tryz.prog 65 #[.func (.yield l) #[] #[], .pointer (some ⟨Bp, 0, none⟩)] W fun e W' => (∃ v, e = .returned v) ∧
      ((∃ ys : List (Ix len), ys.map (·.1) = List.range len ∧ J ys W') ∨ (∃ pre : List (Ix len), (∃ k, k ≤ len ∧ pre.map (·.1) = List.range k) ∧ Jx pre W')) := by
  refine callsIn_of_wp Tryz.func65 rfl h38 ?_ hro
  simp only [Tryz.ntmps65, List.size_toArray, List.length_cons, List.length_nil, Nat.reduceAdd, Nat.reduceSub, Array.replicate_succ, Array.replicate_zero, List.push_toArray, List.append_toArray, List.nil_append, List.cons_append]
  have HC := Lib.hid hc
  clear hc
  gi_wp2
  gi_loopw [3, 5, 11] (fun f _ i wr => ∃ (k : Nat) (pre : List (Ix len)), k ≤ len ∧ i = .int .i64 k ∧ f = .int .i64 (bgE E k : Int) ∧ pre.map (·.1) = List.range k ∧ J pre wr ∧ Below n₀ W wr ∧ n₁ ≤ wr.heap.size)
    (fun _ _ i _ => len - (intOf i).toNat)
  case atStart => exact ⟨0, [], Nat.zero_le _, rfl, by rw [bgE_zero]; rfl, rfl, h0, Below.refl _ _, hn1⟩
  case round =>
    obtain ⟨k, pre, hk, rfl, rfl, hpre, hJs, hnx, hwr⟩ := hrel
    by_cases hlt : k < len
    · obtain ⟨x0, x1⟩ := HC.out k _ (lnAt_of (by omega))
      obtain ⟨S, hS⟩ : ∃ S, S = bs (lnAt E k).text := ⟨_, rfl⟩
      obtain ⟨ka, hka⟩ : ∃ a, a = (lnAt E k).a := ⟨_, rfl⟩
      obtain ⟨kl, hkl⟩ : ∃ a, a = (lnAt E k).l := ⟨_, rfl⟩
      obtain ⟨kc, hkc⟩ : ∃ a, a = (lnAt E k).c := ⟨_, rfl⟩
      have hss : S.size = (lnAt E k).text.length := by rw [hS, bs_size]
      have hJa : J pre (wr.alloc (.cells #[.string S, .slice ka kl kc] 90)) := hJ _ _ _ none hJs (World.grownBy_alloc wr _ none) (fun r e => by cases e)
      have hyy := hY _ ⟨k, hlt⟩ _ hJa (by rw [(inOrder_of hpre).2]; exact hlt)
      unfold encE at hyy
      dsimp only at hyy
      rw [← hS, ← hka, ← hkl, ← hkc] at hyy
      rw [← hS] at x0
      rw [← hka, ← hkl, ← hkc] at x1
      obtain ⟨fn, tmps, assign, body, hy, hR⟩ := hyy
      have c0 := (hnx.cell (p := ⟨b, k * 2, none⟩) hb).trans x0
      have c1 := (hnx.cell (p := ⟨b, k * 2 + 1, none⟩) hb).trans x1
      have hbs := bgE_succ (E := E) (k := k) (by omega)
      rw [← hss] at hbs
      have hok : bgE E k + (S.size + 1) ≤ 1000000 := by rw [← hbs]; exact Nat.le_trans (bgE_le E (show k + 1 ≤ len from hlt)) hoff
      have HBS := Lib.hid hbs
      have HP : Hid ((pre ++ [(⟨k, hlt⟩ : Ix len)]).map (·.1) = List.range (k + 1)) := range_snoc hpre hlt
      have HQ : Hid (pre.map (·.1) = List.range k) := hpre
      clear hpre x0 x1 hS hka hkl hkc hss hbs
      obtain ⟨f, hf⟩ : ∃ f, f = bgE E k := ⟨_, rfl⟩
      rw [← hf] at hok hy ⊢
      have HF := Lib.hid hf
      clear hf
      gi_wp2
      refine hR.mono ?_
      rintro e W3 (⟨rfl, hJ3, hk3⟩ | ⟨rfl, hJx3⟩)
      · have hbx : Row W3 wr.heap.size 90 #[.string S, .slice ka kl kc] := Row.keeps hk3 hwr (Row.new wr _ _)
        have d0 := hbx.cell 0
        have d1 := hbx.cell 1
        simp at d0 d1
        gi_wp2
        go_roundw
        case rel => exact ⟨k + 1, pre ++ [⟨k, hlt⟩], by omega, by simp, by rw [HBS.out, ← HF.out]; simp, HP.out, hJ3, (hnx.alloc (by omega) _).trans hk3.below, by have := hk3.below.size; simp at this; omega⟩
        case measure => simp [intOf]; omega
      · gi_wp2
        refine bodyPost_ret (results_none rfl _ _ _) rfl ?_
        exact ⟨⟨_, rfl⟩, .inr ⟨_, ⟨k + 1, by omega, HP.out⟩, hJx3⟩⟩
    · obtain rfl : k = len := by omega
      have HQ : Hid (pre.map (·.1) = List.range k) := hpre
      clear hpre
      gi_wp2
      go_end0
      exact ⟨⟨_, rfl⟩, .inl ⟨pre, HQ.out, hJs⟩⟩

set_option maxHeartbeats 1000000 in
/-- l.each(): the receiver is boxed; the function value captures the box. -/
theorem leach_in (F : Fence) (n : Nat) (h33 : F.fn 45) (hro : F.round = none) (p : Option Addr) (w : World) :
    CallsIn F n Tryz.prog 45 #[.pointer p] w fun e w' => e = .returned (.func (.func 65) #[] #[.pointer (some ⟨w.heap.size, 0, none⟩)]) ∧ w' = w.alloc (.cells #[.pointer p] 81) := by
  refine callsIn_of_wp Tryz.func45 rfl h33 ?_ hro
  simp only [Tryz.ntmps45, List.size_toArray, List.length_cons, List.length_nil, Nat.reduceAdd, Nat.reduceSub, Array.replicate_succ, Array.replicate_zero, List.push_toArray, List.append_toArray, List.nil_append, List.cons_append]
  gi_wp2
  go_ret
  exact ⟨rfl, rfl⟩

/-- l.each() hands back a value that goes through all lines, each with its place; or through the first k of them. -/
theorem leach_stops (F : Fence) (n : Nat) (h38 : F.fn 65) (hro : F.round = none) (hn : 1 ≤ n) (Bp n₀ n₁ X b len cap : Nat) (E : List Ln) (hE : E.length = len) (hlen : len ≤ 1000000) (hoff : bgE E len ≤ 1000000) (hb : b < n₀)
    (w : World) (h01 : n₀ ≤ n₁) (hn1 : n₁ ≤ w.heap.size) (hBp : Bp < w.heap.size) (cBp : w.cell? ⟨Bp, 0, none⟩ = some (.pointer (some ⟨X, 0, none⟩))) (hX : X < n₀) (cX : w.cell? ⟨X, 0, none⟩ = some (.slice (some ⟨b, 0, none⟩) len cap)) (hc : ∀ j e, E[j]? = some e → w.cell? ⟨b, j * 2, none⟩ = some (.string (bs e.text)) ∧ w.cell? ⟨b, j * 2 + 1, none⟩ = some (.slice e.a e.l e.c)) :
    SeqStopsK F n Tryz.prog 65 #[.pointer (some ⟨Bp, 0, none⟩)] (encE E) (Keeps n₀ n₁) (fun ys : List (Ix len) => ys.map (·.1) = List.range len)
      (fun pre => ∃ k, k ≤ len ∧ pre.map (·.1) = List.range k) len w := fun l J Jx W hW hJ _ hY h0 => by
  have c1 := (hW.cell (p := ⟨Bp, 0, none⟩) hBp).trans cBp
  have c2 := (hW.cell (p := ⟨X, 0, none⟩) (by show X < _; omega)).trans cX
  exact leach1_in F n h38 hro hn l Bp n₀ n₁ X b len cap E hb hE hlen hoff J Jx _ hJ hY W h01 (Nat.le_trans hn1 hW.size) c1 c2 (fun j e hj => ⟨(hW.cell (p := ⟨b, j * 2, none⟩) (by show b < _; omega)).trans (hc j e hj).1, (hW.cell (p := ⟨b, j * 2 + 1, none⟩) (by show b < _; omega)).trans (hc j e hj).2⟩) h0
end Go.Proofs.YtdgffpcbpilkcaaGreatDoor

/- How many bytes there are. -/
namespace Go.Proofs.YtdgffpcbpilkcaaGreatDoor
open Go Go.RowKit Go.Shelf
attribute [local go_sem] Oper.semAt_some

set_option maxRecDepth 100000 in
set_option maxHeartbeats 2000000 in
/-- l.size(): how many bytes there are; what lay stays. -/
theorem lsize_in (F : Fence) (n : Nat) (h27 : F.fn 38) (h33 : F.fn 45) (h38 : F.fn 65) (hro : F.round = none) (hn : 3 ≤ n) (X b len cap : Nat) (E : List Ln) (hE : E.length = len) (hlen : len ≤ 1000000) (hoff : bgE E len ≤ 1000000)
    (w : World) (hX : X < w.heap.size) (hb : b < w.heap.size) (cX : w.cell? ⟨X, 0, none⟩ = some (.slice (some ⟨b, 0, none⟩) len cap)) (hc : ∀ j e, E[j]? = some e → w.cell? ⟨b, j * 2, none⟩ = some (.string (bs e.text)) ∧ w.cell? ⟨b, j * 2 + 1, none⟩ = some (.slice e.a e.l e.c)) :
    CallsIn F n Tryz.prog 38 #[.pointer (some ⟨X, 0, none⟩)] w fun e W' => e = .returned (.int .i64 ((bgE E len : Int) - 1)) ∧ Below w.heap.size w W' := by
  have h1 : 1 ≤ n := by omega
  have HC := Lib.hid hc
  clear hc
  refine callsIn_of_wp_marks Tryz.func38 rfl h27 ?_ hro
  simp only [Tryz.ntmps38, List.size_toArray, List.length_cons, List.length_nil, Nat.reduceAdd, Nat.reduceSub, Array.replicate_succ, Array.replicate_zero, List.push_toArray, List.append_toArray, List.nil_append, List.cons_append]
  gi_wp2_with (gi_at_call 45; refine (leach_in F (n - 1) h33 hro _ _).mono ?_; rintro e w' ⟨rfl, rfl⟩)
  have bN := (Boxed.new w 3 (.int .i64 (-1))).alloc (.cells #[.pointer (some ⟨X, 0, none⟩)] 81)
  have bP := Boxed.new (w.alloc (.cells #[.int .i64 (-1)] 3)) 81 (.pointer (some ⟨X, 0, none⟩))
  simp only [World.size_alloc] at bP
  have hB0 : Below w.heap.size w ((w.alloc (.cells #[.int .i64 (-1)] 3)).alloc (.cells #[.pointer (some ⟨X, 0, none⟩)] 81)) := ((Below.refl _ w).alloc (Nat.le_refl _) _).alloc (by simp) _
  have hsz : ((w.alloc (.cells #[.int .i64 (-1)] 3)).alloc (.cells #[.pointer (some ⟨X, 0, none⟩)] 81)).heap.size = w.heap.size + 2 := by simp
  obtain ⟨W0, hW0⟩ : ∃ W0, (w.alloc (.cells #[.int .i64 (-1)] 3)).alloc (.cells #[.pointer (some ⟨X, 0, none⟩)] 81) = W0 := ⟨_, rfl⟩
  rw [hW0] at bN bP hB0 hsz ⊢
  clear hW0
  refine wpIn_rangeFunc_ownH hro h1 (gf := 65) (lb := #[.pointer (some ⟨w.heap.size + 1, 0, none⟩)]) rfl h38 (enters_of Tryz.func65 (by kernel_rfl) rfl)
    (leach_stops F (n - 1) h38 hro (by omega) (w.heap.size + 1) w.heap.size W0.heap.size X b len cap E hE hlen hoff hb W0 (by omega) (Nat.le_refl _) (by omega) bP.cell hX ((hB0.cell (p := ⟨X, 0, none⟩) hX).trans cX) (fun j e hj => ⟨(hB0.cell (p := ⟨b, j * 2, none⟩) hb).trans (HC.out j e hj).1, (hB0.cell (p := ⟨b, j * 2 + 1, none⟩) hb).trans (HC.out j e hj).2⟩)) keeps_t (keeps_b (by omega)) (Below.refl _ _) (fun _ => rfl)
    (fun pre W => (∃ m : Nat, m ≤ 1000000 ∧ Boxed W w.heap.size 3 (.int .i64 ((m : Int) - 1)) ∧ (InOrder pre → m = bgE E pre.length)) ∧ Below w.heap.size w W)
    (fun _ _ _ => False)
    (OwnFrom.and (Own.from (fun s X Y row hs hg hr => by obtain ⟨m, h1, hb, h2⟩ := hs; exact ⟨m, h1, boxed_own _ 3 (fun (_ : Unit) => Value.int .i64 ((m : Int) - 1)) () X Y row hb hg hr, h2⟩) _) (ownFrom_below (Nat.le_refl _) (by omega)))
    (fun _ _ _ _ _ hs _ _ => hs)
    ⟨⟨0, by omega, by simpa using bN, fun _ => (bgE_zero E).symm⟩, hB0⟩
    (fun x a' W => ∃ Bx, w.heap.size < Bx ∧ Row W Bx 90 (lnC (lnAt E x.1)) ∧ a' = { tmps := #[.pointer (some ⟨X, 0, none⟩), undef, .int .i64 0, .pointer (some ⟨w.heap.size, 0, none⟩), .int .i64 (bgE E x.1 : Int), .pointer (some ⟨Bx, 0, none⟩), .pointer (some ⟨X, 0, none⟩), .func (.func 65) #[] #[.pointer (some ⟨w.heap.size + 1, 0, none⟩)], .int .i64 (bgE E x.1 : Int), .agg (lnC (lnAt E x.1)), undef, undef, undef, undef, undef, undef], defers := [] })
    (fun x a' _ X Y row hs hg hr => by obtain ⟨Bx, h1, h2, h3⟩ := hs; exact ⟨Bx, h1, h2.kept hg (fun r e => (hr r e).2), h3⟩)
    ?assign ?body ?done ?stop
  case assign =>
    rintro l pre x W K ⟨⟨m, hm, bM, hin⟩, hB1⟩ hK
    dsimp only [encE]
    gi_wp2
    have hs := hB1.size
    exact hK _ _ ((KeepsOthers.alloc _ _).from _) (Keeps.alloc W hs _) ⟨⟨m, hm, bM.alloc _, hin⟩, hB1.alloc hs _⟩ ⟨W.heap.size, bM.lt, Row.new W 90 _, rfl⟩
  case body =>
    rintro l pre x a' W hl ⟨r, hr⟩ ⟨⟨m, hm, bM, hin⟩, hB1⟩ ⟨Bx, hBx, bX, rfl⟩ hlt
    have hx2 : x.1 < E.length := by rw [hE]; exact x.2
    have hbs := bgE_succ hx2
    have hok : bgE E (x.1 + 1) ≤ 1000000 := Nat.le_trans (bgE_le E (show x.1 + 1 ≤ len from x.2)) hoff
    have cX0 := bX.cell 0
    have cX1 := bX.cell 1
    unfold lnC at cX0 cX1 ⊢
    simp at cX0 cX1
    obtain ⟨S, hS⟩ : ∃ S, S = bs (lnAt E x.1).text := ⟨_, rfl⟩
    have hss : S.size = (lnAt E x.1).text.length := by rw [hS, bs_size]
    have e1 : bgE E (x.1 + 1) = bgE E x.1 + (S.size + 1) := by rw [hss]; exact hbs
    have HE1 := Lib.hid e1
    obtain ⟨f, hf⟩ : ∃ f, f = bgE E x.1 := ⟨_, rfl⟩
    have hok2 : f + (S.size + 1) ≤ 1000000 := by rw [hf, ← e1]; exact hok
    have HF := Lib.hid hf
    have cM := bM.cell
    have fM := bM.frozen
    rw [← hS] at cX0 ⊢
    rw [← hf] at ⊢
    clear hS hss e1 hf hbs hok
    gi_wp2
    refine ⟨(KeepsOthers.setCell _ _ _).from _, Keeps.setCell W (p := ⟨w.heap.size, 0, none⟩) (Nat.le_refl _) (by show w.heap.size < _; omega) _, ⟨bgE E (x.1 + 1), by rw [HE1.out, ← HF.out]; exact hok2, ?_, fun h => ?_⟩, hB1.setCell (p := ⟨w.heap.size, 0, none⟩) (Nat.le_refl _) _⟩
    · have := bM.set (.int .i64 (((bgE E (x.1 + 1) : Nat) : Int) - 1))
      rw [HE1.out, ← HF.out] at this ⊢
      have ez : (((f + (S.size + 1) : Nat) : Int) - 1) = (f : Int) + (S.size : Int) := by omega
      rw [ez] at this ⊢
      exact this
    · obtain ⟨_, h2⟩ := inOrder_snoc.1 h
      rw [List.length_append, ← h2]; rfl
  case done =>
    rintro D zs W hD hz ⟨⟨m, hm, bM, hin⟩, hB1⟩ hK
    obtain ⟨hi1, hi2⟩ := inOrder_of hz
    obtain rfl : m = bgE E len := by rw [hin hi1, hi2]
    have HZ := hz
    clear hz hin hi2 hi1
    have cM := bM.cell
    gi_wp2
    refine ⟨by simp, .inl ⟨_, _, rfl, run_takeDeferred hK, ?_⟩⟩
    exact ⟨_, results_tmp rfl _ _ _, rfl, hB1.trans (belowK_b (w := w) (Nat.le_refl _) W D _ _ (by omega) hK rfl rfl)⟩
  case stop =>
    rintro D c pre W _ _ h _
    exact h.elim

/-- What a lexer in memory gives the walks. -/
theorem Lx.open {W : World} {base X b : Nat} {T : List UInt8} {n : Nat} (h : Lx W base X b T n) :
    ∃ E cap, Row W X 65 #[.slice (some ⟨b, 0, none⟩) E.length cap, .int .i64 (n : Int)] ∧ OwnE W base (.slice (some ⟨b, 0, none⟩) E.length cap) E ∧ E.map (·.text) = splitL T ∧ Toked W base E ∧
      E.length ≤ 4001 ∧ 0 < E.length ∧ bgE E E.length = T.length + 1 ∧ E.length ≤ cap ∧ cap ≤ maxLen ∧ b < W.heap.size ∧ (∀ j e, E[j]? = some e → W.cell? ⟨b, j * 2, none⟩ = some (.string (bs e.text)) ∧ W.cell? ⟨b, j * 2 + 1, none⟩ = some (.slice e.a e.l e.c)) := by
  obtain ⟨E, cap, h1, h2, h3, h4⟩ := h.ex
  obtain ⟨c1, c2, c3, c4⟩ := ownE_cells h2
  have hl : E.length = T.count 10 + 1 := by rw [← splitL_len, ← h3, List.length_map]
  have hc : T.count 10 ≤ T.length := List.count_le_length
  have hs := h.small
  have hb : bgE E E.length = T.length + 1 := by
    have e : (splitL T).length = E.length := by rw [← h3, List.length_map]
    have := begL_all (splitL T) (splitL_ne T)
    rw [join_split, e] at this
    unfold bgE
    rw [h3]
    exact this
  exact ⟨E, cap, h1, h2, h3, h4, by omega, by omega, hb, c1, c2, c3, c4⟩

theorem lsize_c (W : World) (base X b : Nat) (T : List UInt8) (n : Nat) (h : Lx W base X b T n) :
    Calls Tryz.prog 38 #[.pointer (some ⟨X, 0, none⟩)] W fun e W' => e = .returned (.int .i64 (T.length : Int)) ∧ Below W.heap.size W W' := by
  obtain ⟨E, cap, h1, h2, h3, h4, h5, h6, h7, h8, h9, h10, h11⟩ := h.open
  have hs := h.small
  have c := h1.cell 0
  refine (callsIn_wide (n := 3)).1 ((lsize_in _ 3 trivial trivial trivial rfl (Nat.le_refl _) X b E.length cap E rfl (by omega) (by omega) W h1.lt h10 (by simpa using c) h11).mono fun e W' ⟨he, hb⟩ => ⟨?_, hb⟩)
  rw [he, h7]
  congr 2
  push_cast
  omega
end Go.Proofs.YtdgffpcbpilkcaaGreatDoor

/- The line that a place is in. -/
namespace Go.Proofs.YtdgffpcbpilkcaaGreatDoor
open Go Go.RowKit Go.Shelf
attribute [local go_sem] Oper.semAt_some

set_option maxRecDepth 100000 in
set_option maxHeartbeats 4000000 in
/-- l.find(at). -/
theorem lfind_in (F : Fence) (n : Nat) (h27 : F.fn 41) (h33 : F.fn 45) (h38 : F.fn 65) (hro : F.round = none) (hn : 3 ≤ n) (X b len cap : Nat) (E : List Ln) (hE : E.length = len) (hlen : len ≤ 1000000) (hoff : bgE E len ≤ 1000000)
    (at_ : Nat) (hat : at_ < bgE E len)
    (w : World) (hX : X < w.heap.size) (hb : b < w.heap.size) (cX : w.cell? ⟨X, 0, none⟩ = some (.slice (some ⟨b, 0, none⟩) len cap)) (hc : ∀ j e, E[j]? = some e → w.cell? ⟨b, j * 2, none⟩ = some (.string (bs e.text)) ∧ w.cell? ⟨b, j * 2 + 1, none⟩ = some (.slice e.a e.l e.c)) :
    CallsIn F n Tryz.prog 41 #[.pointer (some ⟨X, 0, none⟩), .int .i64 (at_ : Int)] w fun e W' => e = .returned (.tuple #[.int .i64 (((findL (E.map (·.text)) at_).1 : Nat) : Int), .int .i64 (((findL (E.map (·.text)) at_).2 : Nat) : Int)]) ∧ Below w.heap.size w W' := by
  have h1 : 1 ≤ n := by omega
  have hmix : Tryz.prog.follows .mixedOrders = true := by kernel_rfl
  have HC := Lib.hid hc
  clear hc
  obtain ⟨⟨f1, f2⟩, hR⟩ : ∃ R, R = findL (E.map (·.text)) at_ := ⟨_, rfl⟩
  rw [← hR]
  dsimp only
  have HR := Lib.hid hR
  clear hR
  refine callsIn_of_wp_marks Tryz.func41 rfl h27 ?_ hro
  simp only [Tryz.ntmps41, List.size_toArray, List.length_cons, List.length_nil, Nat.reduceAdd, Nat.reduceSub, Array.replicate_succ, Array.replicate_zero, List.push_toArray, List.append_toArray, List.nil_append, List.cons_append]
  gi_wp2
  refine wpIn_scope_straight ?_
  gi_wp2
  refine wpIn_label ?_
  gi_wp2_with (gi_at_call 45; refine (leach_in F (n - 1) h33 hro _ _).mono ?_; rintro e w' ⟨rfl, rfl⟩)
  have bA := ((Boxed.new w 3 (.int .i64 (at_ : Int))).alloc (.cells #[.int .i64 0] 3)).alloc (.cells #[.pointer (some ⟨X, 0, none⟩)] 81)
  have bN := (Boxed.new (w.alloc (.cells #[.int .i64 (at_ : Int)] 3)) 3 (.int .i64 0)).alloc (.cells #[.pointer (some ⟨X, 0, none⟩)] 81)
  have bP := Boxed.new ((w.alloc (.cells #[.int .i64 (at_ : Int)] 3)).alloc (.cells #[.int .i64 0] 3)) 81 (.pointer (some ⟨X, 0, none⟩))
  have hB0 : Below w.heap.size w (((w.alloc (.cells #[.int .i64 (at_ : Int)] 3)).alloc (.cells #[.int .i64 0] 3)).alloc (.cells #[.pointer (some ⟨X, 0, none⟩)] 81)) := (((Below.refl _ w).alloc (Nat.le_refl _) _).alloc (by simp) _).alloc (by simp; omega) _
  have hsz : (((w.alloc (.cells #[.int .i64 (at_ : Int)] 3)).alloc (.cells #[.int .i64 0] 3)).alloc (.cells #[.pointer (some ⟨X, 0, none⟩)] 81)).heap.size = w.heap.size + 3 := by simp
  simp only [World.size_alloc] at bN bP
  obtain ⟨W0, hW0⟩ : ∃ W0, ((w.alloc (.cells #[.int .i64 (at_ : Int)] 3)).alloc (.cells #[.int .i64 0] 3)).alloc (.cells #[.pointer (some ⟨X, 0, none⟩)] 81) = W0 := ⟨_, rfl⟩
  rw [hW0] at bA bN bP hB0 hsz ⊢
  clear hW0
  refine wpIn_rangeFunc_ownH hro h1 (gf := 65) (lb := #[.pointer (some ⟨w.heap.size + 1 + 1, 0, none⟩)]) rfl h38 (enters_of Tryz.func65 (by kernel_rfl) rfl)
    (leach_stops F (n - 1) h38 hro (by omega) (w.heap.size + 1 + 1) w.heap.size W0.heap.size X b len cap E hE hlen hoff hb W0 (by omega) (Nat.le_refl _) (by omega) bP.cell hX ((hB0.cell (p := ⟨X, 0, none⟩) hX).trans cX) (fun j e hj => ⟨(hB0.cell (p := ⟨b, j * 2, none⟩) hb).trans (HC.out j e hj).1, (hB0.cell (p := ⟨b, j * 2 + 1, none⟩) hb).trans (HC.out j e hj).2⟩)) keeps_t (keeps_b (by omega)) (Below.refl _ _) (fun _ => rfl)
    (fun pre W => (∃ m : Nat, m ≤ pre.length ∧ Boxed W w.heap.size 3 (.int .i64 (at_ : Int)) ∧ Boxed W (w.heap.size + 1) 3 (.int .i64 (m : Int)) ∧ (InOrder pre → m = pre.length ∧ bgE E pre.length ≤ at_)) ∧ Below w.heap.size w W)
    (fun c pre W => (c = .exit 0 ∧ ∃ (m : Nat) (z : Int), Boxed W w.heap.size 3 (.int .i64 z) ∧ Boxed W (w.heap.size + 1) 3 (.int .i64 (m : Int)) ∧ (InOrder pre → m + 1 = pre.length ∧ (bgE E m : Int) + z = at_ ∧ 0 ≤ z ∧ z ≤ (lnAt E m).text.length ∧ m < len)) ∧ Below w.heap.size w W)
    (OwnFrom.and (Own.from (fun s X Y row hs hg hr => by obtain ⟨m, h1, hb, hb2, h2⟩ := hs; exact ⟨m, h1, boxed_own _ 3 (fun (_ : Unit) => Value.int .i64 (at_ : Int)) () X Y row hb hg hr, boxed_own _ 3 (fun (_ : Unit) => Value.int .i64 (m : Int)) () X Y row hb2 hg hr, h2⟩) _) (ownFrom_below (Nat.le_refl _) (by omega)))
    (fun c => OwnFrom.and (Own.from (fun s X Y row hs hg hr => by obtain ⟨h0, m, z, hb, hb2, h2⟩ := hs; exact ⟨h0, m, z, boxed_own _ 3 (fun (_ : Unit) => Value.int .i64 z) () X Y row hb hg hr, boxed_own _ 3 (fun (_ : Unit) => Value.int .i64 (m : Int)) () X Y row hb2 hg hr, h2⟩) _) (ownFrom_below (Nat.le_refl _) (by omega)))
    ⟨⟨0, Nat.le_refl _, bA, bN, fun _ => ⟨rfl, by rw [List.length_nil, bgE_zero]; omega⟩⟩, hB0⟩
    (fun x a' W => ∃ Bx, w.heap.size + 1 < Bx ∧ Row W Bx 90 (lnC (lnAt E x.1)) ∧ a' = { tmps := #[.pointer (some ⟨X, 0, none⟩), .int .i64 (at_ : Int), undef, .pointer (some ⟨w.heap.size, 0, none⟩), .int .i64 0, .int .i64 0, .pointer (some ⟨w.heap.size + 1, 0, none⟩), .int .i64 (bgE E x.1 : Int), .pointer (some ⟨Bx, 0, none⟩), .pointer (some ⟨X, 0, none⟩), .func (.func 65) #[] #[.pointer (some ⟨w.heap.size + 1 + 1, 0, none⟩)], .int .i64 (bgE E x.1 : Int), .agg (lnC (lnAt E x.1)), undef, undef, undef, undef, undef, undef, undef, undef, undef, undef, undef, undef, undef, undef], defers := [] })
    (fun x a' _ X Y row hs hg hr => by obtain ⟨Bx, h1, h2, h3⟩ := hs; exact ⟨Bx, h1, h2.kept hg (fun r e => (hr r e).2), h3⟩)
    ?assign ?body ?done ?stop
  case assign =>
    rintro l pre x W K ⟨⟨m, hm, bM, bM2, hin⟩, hB1⟩ hK
    dsimp only [encE]
    gi_wp2
    have hs := hB1.size
    exact hK _ _ ((KeepsOthers.alloc _ _).from _) (Keeps.alloc W hs _) ⟨⟨m, hm, bM.alloc _, bM2.alloc _, hin⟩, hB1.alloc hs _⟩ ⟨W.heap.size, bM2.lt, Row.new W 90 _, rfl⟩
  case body =>
    rintro l pre x a' W hl ⟨r, hr⟩ ⟨⟨m, hm, bM, bM2, hin⟩, hB1⟩ ⟨Bx, hBx, bX, rfl⟩ hlt
    have hx2 : x.1 < E.length := by rw [hE]; exact x.2
    have hbs := bgE_succ hx2
    have hok : bgE E (x.1 + 1) ≤ 1000000 := Nat.le_trans (bgE_le E (show x.1 + 1 ≤ len from x.2)) hoff
    have cX0 := bX.cell 0
    have cX1 := bX.cell 1
    unfold lnC at cX0 cX1 ⊢
    simp at cX0 cX1
    obtain ⟨S, hS⟩ : ∃ S, S = bs (lnAt E x.1).text := ⟨_, rfl⟩
    have hss : S.size = (lnAt E x.1).text.length := by rw [hS, bs_size]
    have e1 : bgE E (x.1 + 1) = bgE E x.1 + (S.size + 1) := by rw [hss]; exact hbs
    have HE1 := Lib.hid e1
    have HSS := Lib.hid hss
    obtain ⟨f, hf⟩ : ∃ f, f = bgE E x.1 := ⟨_, rfl⟩
    have hok2 : f + (S.size + 1) ≤ 1000000 := by rw [hf, ← e1]; exact hok
    have HF := Lib.hid hf
    have hat2 : at_ ≤ 1000000 := by omega
    have HIN := Lib.hid hin
    have HB := Lib.hid hB1
    have HMb := Lib.hid bM
    have HMb2 := Lib.hid bM2
    have cM := bM.cell
    have fM := bM.frozen
    have cM2 := bM2.cell
    have fM2 := bM2.frozen
    rw [← hS] at cX0 ⊢
    rw [← hf] at ⊢
    clear hS hss e1 hf hbs hok hin hB1 bM bM2
    by_cases hle : at_ ≤ f + S.size
    · have t1 : decide ((at_ : Int) ≤ (f : Int) + (S.size : Int)) = true := by simp; omega
      gi_wp2
      refine ⟨(KeepsOthers.setCell _ _ _).from _, ⟨rfl, m, (at_ : Int) - (f : Int), ?_, ?_, fun h => ?_⟩, HB.out.setCell (p := ⟨w.heap.size, 0, none⟩) (Nat.le_refl _) _⟩
      · have := HMb.out.set (.int .i64 ((at_ : Int) - (f : Int)))
        simpa using this
      · exact HMb2.out.other (by omega) _
      · obtain ⟨h3, h2⟩ := inOrder_snoc.1 h
        obtain ⟨h4, h5⟩ := HIN.out h3
        rw [← h2, ← HF.out] at h5
        rw [List.length_append, h4, ← h2]
        refine ⟨rfl, by rw [← HF.out]; omega, by omega, by rw [← HSS.out]; omega, x.2⟩
    · have t1 : decide ((at_ : Int) ≤ (f : Int) + (S.size : Int)) = false := by simp; omega
      gi_wp2
      refine ⟨(KeepsOthers.setCell _ _ _).from _, Keeps.setCell W (p := ⟨w.heap.size + 1, 0, none⟩) (by show w.heap.size ≤ w.heap.size + 1; omega) (by show w.heap.size + 1 < _; omega) _, ⟨m + 1, by rw [List.length_append, List.length_singleton]; omega, ?_, ?_, fun h => ?_⟩, HB.out.setCell (p := ⟨w.heap.size + 1, 0, none⟩) (by show w.heap.size ≤ w.heap.size + 1; omega) _⟩
      · exact HMb.out.other (by omega) _
      · have := HMb2.out.set (.int .i64 ((m + 1 : Nat) : Int))
        simpa using this
      · obtain ⟨h3, h2⟩ := inOrder_snoc.1 h
        obtain ⟨h4, h5⟩ := HIN.out h3
        rw [List.length_append, h4, ← h2]
        exact ⟨rfl, by rw [List.length_singleton, HE1.out, ← HF.out]; omega⟩
  case done =>
    rintro D zs W hD hz ⟨⟨m, hm, bM, bM2, hin⟩, hB1⟩ hK
    obtain ⟨hi1, hi2⟩ := inOrder_of hz
    obtain ⟨h3, h4⟩ := hin hi1
    rw [hi2] at h4
    omega
  case stop =>
    rintro D c pre W hD ⟨k, hk, hz⟩ ⟨⟨rfl, m, z, bM, bM2, hin⟩, hB1⟩ hK
    obtain ⟨hi1, hi2⟩ := inOrder_of hz
    obtain ⟨h3, h4, h0, h5, h6⟩ := hin hi1
    obtain ⟨f, rfl⟩ : ∃ f : Nat, z = f := ⟨z.toNat, by omega⟩
    have hfl : findL (E.map (·.text)) at_ = (m, f) := by
      have hx : (E.map (·.text))[m]? = some (lnAt E m).text := by rw [List.getElem?_map, lnAt_of (by omega)]; rfl
      have := findL_first (E.map (·.text)) at_ m _ hx (by unfold bgE at h4; omega) (by unfold bgE at h4; omega)
      rw [this]
      unfold bgE at h4
      simp only [Prod.mk.injEq, true_and]
      omega
    have h9 := HR.out
    rw [hfl] at h9
    obtain ⟨rfl, rfl⟩ : f1 = m ∧ f2 = f := by simpa using h9
    clear h9 HR
    have cM := bM.cell
    have cM2 := bM2.cell
    have HB := Lib.hid hB1
    have HK := Lib.hid hK
    have HS := Lib.hid hsz
    clear hz hin hi2 hi1 hsz hB1 hK hfl h3 h4 h5 bM bM2
    gi_wp2
    gi_region_with_o (fail)
    all_goals gi_wp2
    all_goals rw [Exit.noGoto_ret]
    all_goals have hss := HS.out
    all_goals refine ⟨by simp, .inl ⟨_, _, rfl, run_takeDeferred HK.out, ?_⟩⟩
    all_goals refine ⟨.tuple #[.int .i64 (f1 : Int), .int .i64 (f2 : Int)], by simp [results, Tryz.f41, go_sem], rfl, ?_⟩
    all_goals exact HB.out.drew.trans (belowK_b (w := w) (Nat.le_refl _) W.drew D _ _ (by omega) HK.out rfl rfl)

theorem lfind_c (W : World) (base X b : Nat) (T : List UInt8) (n : Nat) (h : Lx W base X b T n) (at_ : Nat) (hat : at_ ≤ T.length) :
    Calls Tryz.prog 41 #[.pointer (some ⟨X, 0, none⟩), .int .i64 (at_ : Int)] W fun e W' => e = .returned (.tuple #[.int .i64 ((frL T at_ : Nat) : Int), .int .i64 (((findL (splitL T) at_).2 : Nat) : Int)]) ∧ Below W.heap.size W W' := by
  obtain ⟨E, cap, h1, h2, h3, h4, h5, h6, h7, h8, h9, h10, h11⟩ := h.open
  have hs := h.small
  have c := h1.cell 0
  refine (callsIn_wide (n := 3)).1 ((lfind_in _ 3 trivial trivial trivial rfl (Nat.le_refl _) X b E.length cap E rfl (by omega) (by omega) at_ (by omega) W h1.lt h10 (by simpa using c) h11).mono fun e W' he => ?_)
  rw [h3] at he
  exact he
end Go.Proofs.YtdgffpcbpilkcaaGreatDoor
