/- Glyphs: plain facts on their table, and on texts that are turned. Nothing of the program stands here. -/
import Derived.Lib.Strings
import Derived.Lib.Hide
import Derived.KernelRfl
namespace Go.Proofs.YtbegplfijjbpcaaDoor
open Go Go.RowKit

/-- The table: a glyph's bytes, its digraph's, its class. -/
def tab : List (List UInt8 × List UInt8 × Nat) := [
  ([43], [], 1), ([45], [], 1), ([195, 151], [96, 120], 1), ([195, 183], [96, 100], 1),
  ([226, 140, 136], [96, 117], 1), ([226, 140, 138], [96, 110], 1), ([124], [], 1), ([61], [], 1),
  ([226, 137, 160], [96, 113], 1), ([60], [], 1), ([62], [], 1), ([226, 137, 164], [96, 108], 1),
  ([226, 137, 165], [96, 103], 1), ([226, 136, 167], [96, 97], 1), ([226, 136, 168], [96, 111], 1), ([126], [], 1),
  ([226, 141, 180], [96, 114], 1), ([226, 141, 179], [96, 105], 1), ([44], [], 1), ([226, 140, 189], [96, 116], 1),
  ([226, 134, 145], [96, 107], 1), ([226, 134, 147], [96, 106], 1), ([226, 137, 162], [96, 109], 1), ([47], [], 2),
  ([92], [], 2), ([194, 168], [96, 101], 2), ([226, 141, 168], [96, 99], 2), ([226, 134, 144], [96, 115], 3),
  ([226, 139, 132], [96, 122], 3), ([58], [], 3), ([123], [], 3), ([125], [], 3),
  ([40], [], 3), ([41], [], 3), ([226, 141, 186], [96, 112], 4), ([226, 141, 181], [96, 119], 4),
  ([194, 175], [96, 104], 5), ([226, 141, 157], [96, 98], 6)]
def gl (k : Nat) : List UInt8 := ((tab[k]?).getD ([], [], 0)).1
def di (k : Nat) : List UInt8 := ((tab[k]?).getD ([], [], 0)).2.1
def cl (k : Nat) : Nat := ((tab[k]?).getD ([], [], 0)).2.2
/-- Bytes as a string. -/
def bs (l : List UInt8) : ByteArray := ⟨l.toArray⟩
theorem bs_list (l : List UInt8) : (bs l).data.toList = l := by simp [bs]
theorem bs_of (s : ByteArray) : bs s.data.toList = s := by simp [bs]
theorem bs_size (l : List UInt8) : (bs l).size = l.length := by simp [bs, ByteArray.size]

/-- How many bytes sign k takes at the beginning of T; 0 if it doesn't stand there. -/
def sz (T : List UInt8) (k : Nat) : Nat := if Lib.hasPrefix T (gl k) then (gl k).length else if di k ≠ [] ∧ Lib.hasPrefix T (di k) = true then (di k).length else 0
/-- The sign that T begins with. -/
def firstK (T : List UInt8) : Option Nat := (List.range 38).find? fun k => sz T k != 0
def fsz (T : List UInt8) : Nat := match firstK T with
  | some k => sz T k
  | none => 0

theorem gl_ne : ∀ k, k < 38 → gl k ≠ [] := by decide +kernel
theorem gl_len : ∀ k, k < 38 → (gl k).length ≤ 3 := by decide +kernel
theorem di_len : ∀ k, k < 38 → (di k).length = 0 ∨ (di k).length = 2 := by decide +kernel
theorem cl_le : ∀ k, cl k ≤ 6 := fun k => by
  rcases Nat.lt_or_ge k 38 with h | h
  · exact (by decide +kernel : ∀ k, k < 38 → cl k ≤ 6) k h
  · unfold cl
    rw [List.getElem?_eq_none (by exact h)]
    exact Nat.zero_le _

theorem firstK_none {T : List UInt8} : firstK T = none ↔ ∀ k, k < 38 → sz T k = 0 := by
  unfold firstK
  rw [List.find?_eq_none]
  constructor
  · intro h k hk
    have := h k (List.mem_range.2 hk)
    simpa using this
  · intro h k hk
    simpa using h k (List.mem_range.1 hk)
theorem firstK_some {T : List UInt8} {k : Nat} : firstK T = some k ↔ k < 38 ∧ sz T k ≠ 0 ∧ ∀ j, j < k → sz T j = 0 := by
  unfold firstK
  rw [List.find?_range_eq_some]
  simp only [List.mem_range, bne_iff_ne, ne_eq, Bool.not_eq_true', bne_eq_false_iff_eq]
  constructor
  · rintro ⟨h1, h2, h3⟩
    exact ⟨h2, h1, fun j hj => h3 j hj⟩
  · rintro ⟨h1, h2, h3⟩
    exact ⟨h2, h1, fun j hj => h3 j hj⟩
theorem fsz_some {T : List UInt8} {k : Nat} (h : firstK T = some k) : fsz T = sz T k := by unfold fsz; rw [h]

/-- p is a spelling of sign k. -/
def Spells (k : Nat) (p : List UInt8) : Prop := p ≠ [] ∧ (p = gl k ∨ p = di k)
theorem sz_spells {T : List UInt8} {k : Nat} (h : sz T k ≠ 0) : ∃ p, Spells k p ∧ p <+: T ∧ sz T k = p.length := by
  unfold sz at h ⊢
  split
  · rename_i h1
    rw [if_pos h1] at h
    exact ⟨gl k, ⟨fun e => h (by rw [e]; rfl), .inl rfl⟩, List.isPrefixOf_iff_prefix.1 h1, rfl⟩
  · rename_i h1
    rw [if_neg h1] at h
    split
    · rename_i h2
      exact ⟨di k, ⟨h2.1, .inr rfl⟩, List.isPrefixOf_iff_prefix.1 h2.2, rfl⟩
    · rename_i h2
      rw [if_neg h2] at h
      exact absurd rfl h
theorem sz_of {T p : List UInt8} {k : Nat} (hp : Spells k p) (h : p <+: T) : sz T k ≠ 0 := by
  unfold sz
  split
  · rename_i h1
    rcases hp with ⟨hn, rfl | rfl⟩
    · exact fun e => hn (List.eq_nil_of_length_eq_zero e)
    · intro e
      have e' := List.eq_nil_of_length_eq_zero e
      rcases Nat.lt_or_ge k 38 with hk | hk
      · exact gl_ne k hk e'
      · apply hn
        unfold di
        rw [List.getElem?_eq_none (by exact hk)]
        rfl
  · rename_i h1
    rcases hp with ⟨hn, rfl | rfl⟩
    · exact absurd (List.isPrefixOf_iff_prefix.2 h) h1
    · rw [if_pos ⟨hn, List.isPrefixOf_iff_prefix.2 h⟩]
      exact fun e => hn (List.eq_nil_of_length_eq_zero e)
theorem fsz_spells {T : List UInt8} {k : Nat} (h : firstK T = some k) : ∃ p, Spells k p ∧ p <+: T ∧ fsz T = p.length := by
  rw [fsz_some h]
  exact sz_spells (firstK_some.1 h).2.1
theorem fsz_pos {T : List UInt8} {k : Nat} (h : firstK T = some k) : 0 < fsz T := by
  rw [fsz_some h]
  exact Nat.pos_of_ne_zero (firstK_some.1 h).2.1
theorem fsz_le (T : List UInt8) : fsz T ≤ T.length := by
  cases h : firstK T with
  | none => unfold fsz; rw [h]; exact Nat.zero_le _
  | some k =>
    obtain ⟨p, _, hp, e⟩ := fsz_spells h
    rw [e]
    exact hp.length_le
theorem firstK_nil : firstK [] = none := by decide +kernel
theorem fsz_le3 (T : List UInt8) : fsz T ≤ 3 := by
  cases h : firstK T with
  | none => unfold fsz; rw [h]; exact Nat.zero_le _
  | some k =>
    obtain ⟨p, ⟨_, hp⟩, _, e⟩ := fsz_spells h
    have hk := (firstK_some.1 h).1
    rw [e]
    rcases hp with rfl | rfl
    · exact gl_len k hk
    · have := di_len k hk
      omega

/-- NO SPELLING BEGINS WITH ANOTHER ONE. -/
theorem free : ∀ k, k < 38 → ∀ j, j < 38 → (Lib.hasPrefix (gl k) (gl j) = true → j = k) ∧ (Lib.hasPrefix (gl k) (di j) = true → di j = []) ∧ (Lib.hasPrefix (di k) (gl j) = true → False) ∧ (Lib.hasPrefix (di k) (di j) = true → di j = [] ∨ j = k) := by decide +kernel
theorem spells_one {k j : Nat} {p q : List UInt8} (hk : k < 38) (hj : j < 38) (hp : Spells k p) (hq : Spells j q) (h : q <+: p) : j = k ∧ q = p := by
  have h' : Lib.hasPrefix p q = true := List.isPrefixOf_iff_prefix.2 h
  obtain ⟨f1, f2, f3, f4⟩ := free k hk j hj
  rcases hp with ⟨hpn, rfl | rfl⟩ <;> rcases hq with ⟨hqn, rfl | rfl⟩
  · obtain rfl := f1 h'
    exact ⟨rfl, rfl⟩
  · exact absurd (f2 h') hqn
  · exact (f3 h').elim
  · rcases f4 h' with e | e
    · exact absurd e hqn
    · subst e; exact ⟨rfl, rfl⟩
theorem first_spell {k : Nat} (hk : k < 38) {p : List UInt8} (hp : Spells k p) (Y : List UInt8) : firstK (p ++ Y) = some k ∧ fsz (p ++ Y) = p.length := by
  have one : ∀ j q, j < 38 → Spells j q → q <+: p ++ Y → j = k ∧ q = p := fun j q hj hq h => by
    rcases Nat.le_total q.length p.length with hl | hl
    · have h1 : q <+: p := List.prefix_of_prefix_length_le h (List.prefix_append p Y) hl
      exact spells_one hk hj hp hq h1
    · have h1 : p <+: q := List.prefix_of_prefix_length_le (List.prefix_append p Y) h hl
      obtain ⟨e1, e2⟩ := spells_one hj hk hq hp h1
      exact ⟨e1.symm, e2.symm⟩
  have hs : firstK (p ++ Y) = some k := firstK_some.2 ⟨hk, sz_of hp (List.prefix_append p Y), fun j hj => by
    apply Classical.byContradiction
    intro hn
    obtain ⟨q, hq, hqp, _⟩ := sz_spells hn
    have := (one j q (by omega) hq hqp).1
    omega⟩
  refine ⟨hs, ?_⟩
  obtain ⟨q, hq, hqp, e⟩ := fsz_spells hs
  rw [e, (one k q hk hq hqp).2]

/-- A text, each sign in it as f tells, all else as it is. -/
def turn (f : Nat → List UInt8) : List UInt8 → Nat → List UInt8
  | [], _ => []
  | _ :: r, n + 1 => turn f r n
  | b :: r, 0 => match firstK (b :: r) with
    | some k => f k ++ turn f r (fsz (b :: r) - 1)
    | none => b :: turn f r 0
theorem turn_drop (f : Nat → List UInt8) : ∀ (T : List UInt8) (n : Nat), turn f T n = turn f (T.drop n) 0
  | [], n => by simp [turn]
  | _ :: r, n + 1 => by rw [turn, turn_drop f r n, List.drop_succ_cons]
  | b :: r, 0 => rfl
theorem turn_nil (f : Nat → List UInt8) : turn f [] 0 = [] := rfl
theorem turn_none (f : Nat → List UInt8) {b : UInt8} {r : List UInt8} (h : firstK (b :: r) = none) : turn f (b :: r) 0 = b :: turn f r 0 := by
  rw [turn]; rw [h]
theorem turn_hit (f : Nat → List UInt8) {T : List UInt8} {k : Nat} (h : firstK T = some k) : turn f T 0 = f k ++ turn f (T.drop (fsz T)) 0 := by
  cases T with
  | nil => rw [firstK_nil] at h; cases h
  | cons b r =>
    rw [turn]
    have hp := fsz_pos h
    rw [h]
    dsimp only
    rw [turn_drop]
    obtain ⟨m, hm⟩ : ∃ m, fsz (b :: r) = m + 1 := ⟨fsz (b :: r) - 1, by omega⟩
    rw [hm, List.drop_succ_cons, Nat.add_sub_cancel]
theorem turn_ahead (f : Nat → List UInt8) : ∀ (n : Nat) (T : List UInt8), n ≤ T.length → (∀ j, j < n → firstK (T.drop j) = none) → turn f T 0 = T.take n ++ turn f (T.drop n) 0
  | 0, T, _, _ => by simp
  | n + 1, [], h, _ => by simp at h
  | n + 1, b :: r, h, hn => by
    rw [turn_none f (by have := hn 0 (by omega); simpa using this), List.take_succ_cons, List.drop_succ_cons, List.cons_append]
    rw [← turn_ahead f n r (by simpa using h) (fun j hj => by have := hn (j + 1) (by omega); simpa using this)]

/-- How a sign stands in a text with glyphs: gl. With digraphs: -/
def ty (k : Nat) : List UInt8 := if di k = [] then gl k else di k
theorem ty_len : ∀ k, k < 38 → (ty k).length ≤ 3 := by decide +kernel
theorem gl_spells {k : Nat} (hk : k < 38) : Spells k (gl k) := ⟨gl_ne k hk, .inl rfl⟩
theorem ty_spells {k : Nat} (hk : k < 38) : Spells k (ty k) := by
  unfold ty
  split
  · exact gl_spells hk
  · rename_i h
    exact ⟨h, .inr rfl⟩
theorem turn_len (f : Nat → List UInt8) (hf : ∀ k, k < 38 → (f k).length ≤ 3) : ∀ (m : Nat) (T : List UInt8), T.length ≤ m → (turn f T 0).length ≤ 3 * T.length
  | m, [], _ => by simp [turn]
  | 0, b :: r, h => by simp at h
  | m + 1, b :: r, h => by
    simp only [List.length_cons] at h
    cases hh : firstK (b :: r) with
    | none =>
      rw [turn_none f hh]
      have := turn_len f hf m r (by omega)
      simp only [List.length_cons]
      omega
    | some k =>
      rw [turn_hit f hh]
      have hp := fsz_pos hh
      have hl := fsz_le (b :: r)
      have h1 := turn_len f hf m ((b :: r).drop (fsz (b :: r))) (by rw [List.length_drop, List.length_cons]; omega)
      have h2 := hf k (firstK_some.1 hh).1
      rw [List.length_append]
      rw [List.length_drop] at h1
      simp only [List.length_cons] at h1 hl ⊢
      omega
end Go.Proofs.YtbegplfijjbpcaaDoor
