/- Places and columns of a line's bytes: plain facts. -/
import Derived.Test.YtaahhilnkffdlaaDoorPlRune
import Derived.Test.YtaahhilnkffdlaaDoorPlSmall
import Derived.Lib.Bytealg
namespace Go.Proofs.YtaahhilnkffdlaaDoor
open Go Go.RowKit

theorem foldK_len {T : List UInt8} {v u : Int} : ∀ {k : Nat}, foldK T v k = some u → k = 0 ∨ k < T.length
  | 0, _ => .inl rfl
  | k + 1, h => by
    right
    unfold foldK at h
    split at h
    · rename_i h2
      exact (List.getElem?_eq_some_iff.1 h2).1
    · cases h
/-- A rune has at least one byte, and no more than there are. -/
theorem stepOf_le {T : List UInt8} (h : 0 < T.length) : 1 ≤ stepOf T ∧ stepOf T ≤ T.length := by
  unfold stepOf
  rw [List.getElem?_eq_getElem h]
  dsimp only
  have hn : 1 ≤ nOf (T[0].toNat) := by unfold nOf; split; · omega
                                       · split; · omega
                                         · split <;> omega
  split
  · omega
  · split
    · omega
    · split <;> omega

/-- How far a round goes at place i. -/
def stepU (T : List UInt8) (unit : Int) (i : Nat) : Nat := if unit = 1 then 1 else stepOf (T.drop i)
theorem stepU_le {T : List UInt8} {unit : Int} {i : Nat} (h : i < T.length) : 1 ≤ stepU T unit i ∧ i + stepU T unit i ≤ T.length := by
  unfold stepU
  split
  · omega
  · have h1 : 0 < (T.drop i).length := by rw [List.length_drop]; omega
    have h2 := stepOf_le h1
    rw [List.length_drop] at h2
    omega
/-- Where the r-th round begins; its column. -/
def posK (T : List UInt8) (unit : Int) : Nat → Nat
  | 0 => 0
  | r + 1 => posK T unit r + stepU T unit (posK T unit r)
def colK (T : List UInt8) (unit : Int) : Nat → Nat
  | 0 => 0
  | r + 1 => colK T unit r + sizeOfU (stepU T unit (posK T unit r)) unit
/-- The first r + 1 of them. -/
def lst (f : Nat → Nat) (r : Nat) : List Nat := (List.range (r + 1)).map f
theorem lst_len (f : Nat → Nat) (r : Nat) : (lst f r).length = r + 1 := by simp [lst]
theorem lst_succ (f : Nat → Nat) (r : Nat) : lst f (r + 1) = lst f r ++ [f (r + 1)] := by
  unfold lst
  rw [List.range_succ, List.map_append]
  rfl
theorem lst_get (f : Nat → Nat) (r j : Nat) (h : j ≤ r) : (lst f r).getD j 0 = f j := by
  simp [lst, List.getD_eq_getElem?_getD, List.getElem?_map, List.getElem?_range (show j < r + 1 by omega)]
theorem ints_succ (f : Nat → Nat) (r : Nat) : ints (lst f (r + 1)) = ints (lst f r) ++ [.int .i64 ((f (r + 1) : Nat) : Int)] := by
  rw [lst_succ]; simp [ints]
theorem sizeOfU_le {n : Nat} {unit : Int} (h : 1 ≤ n) : sizeOfU n unit ≤ 2 * n := by
  unfold sizeOfU
  split
  · omega
  · split <;> omega
theorem ext_drop (s : ByteArray) (i : Nat) : (s.extract i s.size).data.toList = s.data.toList.drop i := by
  rw [ByteArray.data_extract, Array.toList_extract]
  simp only [List.extract]
  rw [List.take_of_length_le (by rw [List.length_drop, Lib.size_eq]; omega)]
theorem ext_size_le (s : ByteArray) (i : Nat) : (s.extract i s.size).size ≤ s.size := by
  rw [Lib.size_eq, ext_drop, List.length_drop, Lib.size_eq]; omega

/-! ### Lines: how many; what stands between two beginnings -/
/-- How many lines there are. -/
def nlines (T : List UInt8) : Nat := (starts T T.length).length
theorem nlines_pos (T : List UInt8) : 1 ≤ nlines T := (starts_len T T.length).1
theorem nlines_le (T : List UInt8) : nlines T ≤ T.length + 1 := (starts_len T T.length).2

/-- Where the part behind beginning i ends, of the first k bytes. -/
def partEnd (st : List Nat) (k i : Nat) : Nat := if i + 1 < st.length then st.getD (i + 1) 0 - 1 else k

theorem starts_head (T : List UInt8) : ∀ k, (starts T k).getD 0 0 = 0
  | 0 => rfl
  | k + 1 => by
    have h := starts_head T k
    have hl := (starts_len T k).1
    unfold starts
    split
    · simp only [List.getD_eq_getElem?_getD] at h ⊢
      rw [List.getElem?_append_left (by omega)]; exact h
    · exact h
/-- Each beginning but the first stands behind a line end. -/
theorem starts_end (T : List UInt8) : ∀ k i, i + 1 < (starts T k).length → 1 ≤ (starts T k).getD (i + 1) 0 ∧ T[(starts T k).getD (i + 1) 0 - 1]? = some 10
  | 0, i, h => by simp [starts] at h
  | k + 1, i, h => by
    unfold starts at h ⊢
    split
    · rename_i h10
      rw [if_pos h10, List.length_append, List.length_singleton] at h
      by_cases hi : i + 1 < (starts T k).length
      · have := starts_end T k i hi
        simp only [List.getD_eq_getElem?_getD] at this ⊢
        rw [List.getElem?_append_left hi]
        exact this
      · have e : i + 1 = (starts T k).length := by omega
        simp only [List.getD_eq_getElem?_getD]
        rw [e, List.getElem?_append_right (Nat.le_refl _), Nat.sub_self]
        exact ⟨Nat.le_add_left 1 k, h10⟩
    · rename_i h10
      rw [if_neg h10] at h
      exact starts_end T k i h
/-- Between two of them there is none. -/
theorem starts_none (T : List UInt8) : ∀ k i, i < (starts T k).length → ∀ j, (starts T k).getD i 0 ≤ j → j < partEnd (starts T k) k i → T[j]? ≠ some 10
  | 0, i, h, j, h1, h2 => by
    simp [starts] at h
    subst h
    simp [partEnd, starts] at h2
  | k + 1, i, h, j, h1, h2 => by
    by_cases h10 : T[k]? = some 10
    · have hs : starts T (k + 1) = starts T k ++ [k + 1] := by show (if _ then _ else _) = _; rw [if_pos h10]
      rw [hs] at h h1 h2
      rw [List.length_append, List.length_singleton] at h
      unfold partEnd at h2
      rw [List.length_append, List.length_singleton] at h2
      simp only [List.getD_eq_getElem?_getD] at h1 h2
      by_cases hi : i < (starts T k).length
      · rw [List.getElem?_append_left hi] at h1
        rw [if_pos (by omega)] at h2
        refine starts_none T k i hi j (by rw [List.getD_eq_getElem?_getD]; exact h1) ?_
        unfold partEnd
        by_cases hi2 : i + 1 < (starts T k).length
        · rw [List.getElem?_append_left hi2] at h2
          rw [if_pos hi2, List.getD_eq_getElem?_getD]; exact h2
        · have e : i + 1 = (starts T k).length := by omega
          rw [e, List.getElem?_append_right (Nat.le_refl _), Nat.sub_self] at h2
          rw [if_neg hi2]
          simpa using h2
      · have e : i = (starts T k).length := by omega
        rw [if_neg (by omega)] at h2
        rw [e, List.getElem?_append_right (Nat.le_refl _), Nat.sub_self] at h1
        simp at h1
        omega
    · have hs : starts T (k + 1) = starts T k := by show (if _ then _ else _) = _; rw [if_neg h10]
      rw [hs] at h h1 h2
      by_cases hj : j = k
      · rw [hj]; exact h10
      · refine starts_none T k i h j h1 ?_
        unfold partEnd at h2 ⊢
        split at h2
        · rename_i h3; rw [if_pos h3]; exact h2
        · rename_i h3; rw [if_neg h3]; omega

theorem lineEnd_part (T : List UInt8) (n : Nat) : lineEnd T n = partEnd (starts T T.length) T.length n := rfl
theorem lineAt_zero (T : List UInt8) : lineAt T 0 = 0 := starts_head T T.length
/-- Behind a line's end the next one begins. -/
theorem lineAt_succ (T : List UInt8) (n : Nat) (h : n + 1 < nlines T) : lineAt T (n + 1) = lineEnd T n + 1 := by
  have h1 := (starts_end T T.length n h).1
  show _ = (if n + 1 < nlines T then lineAt T (n + 1) - 1 else T.length) + 1
  rw [if_pos h]
  have : lineAt T (n + 1) = (starts T T.length).getD (n + 1) 0 := rfl
  omega
theorem lineEnd_last (T : List UInt8) (n : Nat) (h : ¬ n + 1 < nlines T) : lineEnd T n = T.length := by
  show (if n + 1 < nlines T then lineAt T (n + 1) - 1 else T.length) = _
  rw [if_neg h]
theorem lineAt_le (T : List UInt8) (n : Nat) (h : n < nlines T) : lineAt T n ≤ T.length := by
  refine starts_le T T.length _ ?_
  unfold lineAt
  rw [List.getD_eq_getElem?_getD, List.getElem?_eq_getElem h]
  exact List.getElem_mem h
theorem lineAt_lineEnd (T : List UInt8) (n : Nat) (h : n < nlines T) : lineAt T n ≤ lineEnd T n := by
  by_cases h1 : n + 1 < nlines T
  · have h2 := starts_up T T.length n (n + 1) (by omega) h1
    have h3 := lineAt_succ T n h1
    have : lineAt T n < lineAt T (n + 1) := h2
    omega
  · rw [lineEnd_last T n h1]; exact lineAt_le T n h
theorem lineEnd_le (T : List UInt8) (n : Nat) : lineEnd T n ≤ T.length := by
  by_cases h1 : n + 1 < nlines T
  · have := lineAt_succ T n h1
    have := lineAt_le T (n + 1) h1
    omega
  · rw [lineEnd_last T n h1]; exact Nat.le_refl _
/-- Lines go up. -/
theorem lineAt_up (T : List UInt8) {i j : Nat} (h : i < j) (hj : j < nlines T) : lineEnd T i < lineAt T j := by
  induction j with
  | zero => omega
  | succ j ih =>
    have h1 := lineAt_succ T j hj
    rcases Nat.lt_or_ge i j with h2 | h2
    · have := ih h2 (by omega)
      have := lineAt_lineEnd T j (by omega)
      omega
    · obtain rfl : i = j := by omega
      omega

/-- The first place of a byte. -/
theorem ib_none : ∀ (l : List UInt8) (c : UInt8), (∀ k : Nat, l[k]? ≠ some c) → Lib.indexByte l c = -1
  | [], _, _ => rfl
  | b :: l, c, h => by
    have hb : (b == c) = false := by
      have := h 0
      simp at this
      simpa using this
    have h2 := ib_none l c (fun k => by have := h (k + 1); simpa using this)
    unfold Lib.indexByte
    rw [hb, h2]
    rfl
theorem ib_at : ∀ (l : List UInt8) (c : UInt8) (o : Nat), l[o]? = some c → (∀ k : Nat, k < o → l[k]? ≠ some c) → Lib.indexByte l c = (o : Int)
  | [], _, o, h, _ => by simp at h
  | b :: l, c, 0, h, _ => by
    have hb : b = c := by simpa using h
    unfold Lib.indexByte
    rw [hb]
    simp
  | b :: l, c, o + 1, h, hk => by
    have hb : (b == c) = false := by
      have := hk 0 (by omega)
      simp at this
      simpa using this
    have h2 := ib_at l c o (by simpa using h) (fun k hlt => by have := hk (k + 1) (by omega); simpa using this)
    unfold Lib.indexByte
    rw [hb, h2]
    have : ((o : Int) == -1) = false := beq_eq_false_iff_ne.2 (by omega)
    simp only [this]
    simp
/-- Where the line end is, from a line's beginning on. -/
theorem line_index_mid (T : List UInt8) (n : Nat) (h : n + 1 < nlines T) : Lib.indexByte (T.drop (lineAt T n)) 10 = ((lineEnd T n - lineAt T n : Nat) : Int) := by
  have h1 := lineAt_lineEnd T n (by omega)
  have h2 := lineAt_succ T n h
  have h3 := (starts_end T T.length n h).2
  have h4 : (starts T T.length).getD (n + 1) 0 - 1 = lineEnd T n := by
    have : lineAt T (n + 1) = (starts T T.length).getD (n + 1) 0 := rfl
    omega
  rw [h4] at h3
  refine ib_at _ _ _ ?_ (fun k hk => ?_)
  · rw [List.getElem?_drop, ← h3]; congr 1; omega
  · rw [List.getElem?_drop]
    exact starts_none T T.length n (show n < nlines T by omega) _ (Nat.le_add_right _ _) (by rw [← lineEnd_part]; omega)
theorem line_index_last (T : List UInt8) (n : Nat) (hn : n < nlines T) (h : ¬ n + 1 < nlines T) : Lib.indexByte (T.drop (lineAt T n)) 10 = -1 := by
  refine ib_none _ _ (fun k => ?_)
  rw [List.getElem?_drop]
  by_cases hk : lineAt T n + k < T.length
  · exact starts_none T T.length n hn _ (Nat.le_add_right _ _) (by rw [← lineEnd_part, lineEnd_last T n h]; exact hk)
  · rw [List.getElem?_eq_none (by omega)]; simp

/-! ### Places and columns go up -/
theorem posK_up {T : List UInt8} {unit : Int} {R : Nat} (hq : ∀ q, q < R → posK T unit q < T.length) : ∀ {i j : Nat}, i < j → j ≤ R → posK T unit i < posK T unit j := by
  intro i j h hj
  induction j with
  | zero => omega
  | succ j ih =>
    have h1 := (stepU_le (unit := unit) (hq j (by omega))).1
    have h2 : posK T unit (j + 1) = posK T unit j + stepU T unit (posK T unit j) := rfl
    rcases Nat.lt_or_ge i j with h3 | h3
    · have := ih h3 (by omega); omega
    · obtain rfl : i = j := by omega
      omega
theorem sizeOfU_pos {n : Nat} {unit : Int} (h : 1 ≤ n) : 1 ≤ sizeOfU n unit := by
  unfold sizeOfU
  split
  · exact h
  · split <;> omega
theorem colK_up {T : List UInt8} {unit : Int} {R : Nat} (hq : ∀ q, q < R → posK T unit q < T.length) : ∀ {i j : Nat}, i < j → j ≤ R → colK T unit i < colK T unit j := by
  intro i j h hj
  induction j with
  | zero => omega
  | succ j ih =>
    have h1 := (stepU_le (unit := unit) (hq j (by omega))).1
    have h0 := sizeOfU_pos (unit := unit) h1
    have h2 : colK T unit (j + 1) = colK T unit j + sizeOfU (stepU T unit (posK T unit j)) unit := rfl
    rcases Nat.lt_or_ge i j with h3 | h3
    · have := ih h3 (by omega); omega
    · obtain rfl : i = j := by omega
      omega
theorem posK_le {T : List UInt8} {unit : Int} {R : Nat} (hq : ∀ q, q < R → posK T unit q < T.length) : ∀ {r : Nat}, r ≤ R → posK T unit r ≤ T.length
  | 0, _ => Nat.zero_le _
  | r + 1, h => by
    have := (stepU_le (unit := unit) (hq r (by omega))).2
    exact this
theorem posK_ge {T : List UInt8} {unit : Int} {R : Nat} (hq : ∀ q, q < R → posK T unit q < T.length) : ∀ {r : Nat}, r ≤ R → r ≤ posK T unit r
  | 0, _ => Nat.zero_le _
  | r + 1, h => by
    have h1 := (stepU_le (unit := unit) (hq r (by omega))).1
    have h2 := posK_ge hq (r := r) (by omega)
    show r + 1 ≤ posK T unit r + stepU T unit (posK T unit r)
    omega
theorem colK_le {T : List UInt8} {unit : Int} {R : Nat} (hq : ∀ q, q < R → posK T unit q < T.length) : ∀ {r : Nat}, r ≤ R → colK T unit r ≤ 2 * posK T unit r
  | 0, _ => Nat.zero_le _
  | r + 1, h => by
    have h1 := (stepU_le (unit := unit) (hq r (by omega))).1
    have h2 := colK_le hq (r := r) (by omega)
    have h3 := sizeOfU_le (unit := unit) h1
    show colK T unit r + sizeOfU (stepU T unit (posK T unit r)) unit ≤ 2 * (posK T unit r + stepU T unit (posK T unit r))
    omega
/-- There is a last one: the rounds come to the end. -/
theorem rounds_of (T : List UInt8) (unit : Int) : ∃ R, posK T unit R = T.length ∧ (∀ q, q < R → posK T unit q < T.length) := by
  have key : ∀ d k, T.length - posK T unit k ≤ d → (∀ q, q < k → posK T unit q < T.length) → posK T unit k ≤ T.length → ∃ R, posK T unit R = T.length ∧ (∀ q, q < R → posK T unit q < T.length) := by
    intro d
    induction d with
    | zero => intro k h1 h2 h3; exact ⟨k, by omega, h2⟩
    | succ d ih =>
      intro k h1 h2 h3
      rcases Nat.lt_or_ge (posK T unit k) T.length with h4 | h4
      · have h5 := stepU_le (unit := unit) h4
        have h6 : posK T unit (k + 1) = posK T unit k + stepU T unit (posK T unit k) := rfl
        refine ih (k + 1) (by omega) (fun q hq => ?_) (by omega)
        rcases Nat.lt_or_ge q k with h7 | h7
        · exact h2 q h7
        · obtain rfl : q = k := by omega
          exact h4
      · exact ⟨k, by omega, h2⟩
  exact key _ 0 (Nat.le_refl _) (fun q hq => by omega) (Nat.zero_le _)
end Go.Proofs.YtaahhilnkffdlaaDoor
