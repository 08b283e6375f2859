/- A line's tokens: what they are, and what follows. Nothing of the program stands here; how far a rune goes is left open (st). -/
import Derived.Test.YthbiflmmlcmncaaDoorGlMath
import Derived.Lib.TrimByte
namespace Go.Proofs.YthbiflmmlcmncaaDoor
open Go Go.RowKit

/-- A token: its kind, its bytes, its glyph. -/
structure Tk where
  kind : Nat
  text : List UInt8
  glyph : List UInt8
deriving DecidableEq
def noTk : Tk := ⟨0, [], []⟩

def isB (b : UInt8) : Bool := b == 32 || b == 9
def isD (b : UInt8) : Bool := 48 ≤ b && b ≤ 57
def isL (b : UInt8) : Bool := (97 ≤ b && b ≤ 122) || (65 ≤ b && b ≤ 90) || b == 95
def isW (b : UInt8) : Bool := isL b || isD b
/-- How many bytes of a kind a text begins with. -/
def nOf (p : UInt8 → Bool) (T : List UInt8) : Nat := (T.takeWhile p).length
/-- Behind a quote: how many bytes up to the last one, and it. -/
def qs : List UInt8 → Option Nat
  | [] => none
  | [b] => if b = 39 then some 1 else none
  | b :: c :: r => if b ≠ 39 then (qs (c :: r)).map (· + 1) else if c = 39 then (qs r).map (· + 2) else some 1
/-- A number's digits without zeros ahead, a minus ahead. -/
def short (m d : List UInt8) : List UInt8 := if d.dropWhile (· == 48) = [] then [48] else m ++ d.dropWhile (· == 48)
def kindC (c : Nat) : Nat := if c = 1 then 6 else if c = 2 then 7 else if c = 3 then 8 else if c = 4 then 9 else 0
/-- The class of the sign that a text begins with; its glyph. -/
def clsT (T : List UInt8) : Nat := match firstK T with
  | some k => cl k
  | none => 0
def glT (T : List UInt8) : List UInt8 := match firstK T with
  | some k => gl k
  | none => []

/-! ### The rules -/
def rB (T : List UInt8) : Tk := if nOf isB T = 0 then noTk else ⟨1, T.take (nOf isB T), []⟩
def rR (T : List UInt8) : Tk := if clsT T = 6 then ⟨2, T, glT T⟩ else noTk
def rqOf (T : List UInt8) : Option Nat → Tk
  | none => ⟨10, T, []⟩
  | some n => ⟨4, T.take (n + 1), []⟩
def rQ (T : List UInt8) : Tk := if T.head? = some 39 then rqOf T (qs T.tail) else noTk
/-- How many bytes a minus takes, and its glyph. -/
def mz (T : List UInt8) : Nat := if clsT T = 5 then fsz T else 0
def mg (T : List UInt8) : List UInt8 := if clsT T = 5 then glT T else []
def rN (T : List UInt8) : Tk :=
  if mz T + nOf isD (T.drop (mz T)) = 0 then noTk
  else if nOf isD (T.drop (mz T)) = 0 ∨ 18 < nOf isD (T.drop (mz T)) then ⟨10, T.take (mz T + nOf isD (T.drop (mz T))), []⟩
  else ⟨3, T.take (mz T + nOf isD (T.drop (mz T))), short (mg T) ((T.drop (mz T)).take (nOf isD (T.drop (mz T))))⟩
def rW (T : List UInt8) : Tk :=
  if nOf isL T = 0 then noTk
  else if 20 < nOf isW T then ⟨10, T.take (nOf isW T), []⟩
  else ⟨5, T.take (nOf isW T), []⟩
def rS (T : List UInt8) : Tk := if kindC (clsT T) = 0 then noTk else ⟨kindC (clsT T), T.take (fsz T), glT T⟩
section
variable (st : List UInt8 → Nat)
def rO (T : List UInt8) : Tk := ⟨10, T.take (st T), []⟩
/-- The first that is a token. -/
def firstTk : List Tk → Tk
  | [] => noTk
  | t :: l => if t = noTk then firstTk l else t
/-- The first token of a text that isn't empty. -/
def tk1 (T : List UInt8) : Tk := firstTk [rB T, rR T, rQ T, rN T, rW T, rS T, rO st T]
/-- All the tokens (behind n bytes). -/
def toks : List UInt8 → Nat → List Tk
  | [], _ => []
  | b :: r, 0 => tk1 st (b :: r) :: toks r ((tk1 st (b :: r)).text.length - 1)
  | _ :: r, n + 1 => toks r n
end

/-! ### How far they go -/
theorem nOf_le (p : UInt8 → Bool) (T : List UInt8) : nOf p T ≤ T.length := (List.takeWhile_prefix p).length_le
theorem nOf_zero {p : UInt8 → Bool} {T : List UInt8} : nOf p T = 0 ↔ ∀ b, T.head? = some b → p b = false := by
  unfold nOf
  cases T with
  | nil => simp
  | cons b r =>
    rw [List.takeWhile_cons]
    by_cases h : p b <;> simp [h]
theorem take_tw (p : UInt8 → Bool) : ∀ T : List UInt8, T.take (nOf p T) = T.takeWhile p
  | [] => rfl
  | b :: r => by
    unfold nOf
    rw [List.takeWhile_cons]
    by_cases h : p b
    · rw [if_pos h, List.length_cons, List.take_succ_cons]
      exact congrArg _ (take_tw p r)
    · rw [if_neg h]; rfl
theorem tw_tw (p : UInt8 → Bool) : ∀ T : List UInt8, (T.takeWhile p).takeWhile p = T.takeWhile p
  | [] => rfl
  | b :: r => by
    rw [List.takeWhile_cons]
    by_cases h : p b
    · rw [if_pos h, List.takeWhile_cons, if_pos h, tw_tw p r]
    · rw [if_neg h]; rfl
theorem nOf_take (p : UInt8 → Bool) (T : List UInt8) : nOf p (T.take (nOf p T)) = nOf p T := by
  rw [take_tw]
  unfold nOf
  rw [tw_tw]
theorem qs_le : ∀ (T : List UInt8) (n : Nat), qs T = some n → 1 ≤ n ∧ n ≤ T.length
  | [], n, h => by simp [qs] at h
  | [b], n, h => by
    unfold qs at h
    split at h
    · cases h; simp
    · cases h
  | b :: c :: r, n, h => by
    unfold qs at h
    split at h
    · obtain ⟨m, hm, rfl⟩ := Option.map_eq_some_iff.1 h
      have := qs_le (c :: r) m hm
      simp only [List.length_cons] at this ⊢
      omega
    · split at h
      · obtain ⟨m, hm, rfl⟩ := Option.map_eq_some_iff.1 h
        have := qs_le r m hm
        simp only [List.length_cons]
        omega
      · cases h; simp
theorem qs_take : ∀ (T : List UInt8) (n : Nat), qs T = some n → qs (T.take n) = some n
  | [], n, h => by simp [qs] at h
  | [b], n, h => by
    have h' := h
    unfold qs at h
    split at h
    · cases h; exact h'
    · cases h
  | b :: c :: r, n, h => by
    unfold qs at h
    split at h
    · rename_i hb
      obtain ⟨m, hm, rfl⟩ := Option.map_eq_some_iff.1 h
      have h1 := qs_take (c :: r) m hm
      have h2 := qs_le (c :: r) m hm
      obtain ⟨m, rfl⟩ : ∃ q, m = q + 1 := ⟨m - 1, by omega⟩
      rw [List.take_succ_cons, List.take_succ_cons]
      rw [List.take_succ_cons] at h1
      unfold qs
      rw [if_pos hb, h1]
      rfl
    · rename_i hb
      split at h
      · rename_i hc
        obtain ⟨m, hm, rfl⟩ := Option.map_eq_some_iff.1 h
        have h1 := qs_take r m hm
        rw [List.take_succ_cons, List.take_succ_cons]
        unfold qs
        rw [if_neg hb, if_pos hc, h1]
        rfl
      · cases h
        rw [List.take_succ_cons, List.take_zero]
        unfold qs
        rw [if_pos (Classical.byContradiction fun e => hb e)]
theorem qs_none : ∀ R : List UInt8, (∀ k : Nat, R[k]? ≠ some 39) → qs R = none
  | [], _ => rfl
  | [b], h => by
    unfold qs
    rw [if_neg (fun e => h 0 (by simp [e]))]
  | b :: c :: r, h => by
    unfold qs
    rw [if_pos (fun e => h 0 (by simp [e])), qs_none (c :: r) (fun k => by simpa using h (k + 1))]
    rfl
theorem qs_at : ∀ (R : List UInt8) (i : Nat), R[i]? = some 39 → (∀ k : Nat, k < i → R[k]? ≠ some 39) →
    qs R = if R[i + 1]? = some 39 then (qs (R.drop (i + 2))).map (· + (i + 2)) else some (i + 1)
  | [], i, h, _ => by simp at h
  | [b], 0, h, _ => by
    have hb : b = 39 := by simpa using h
    subst hb
    rfl
  | [b], i + 1, h, _ => by simp at h
  | b :: c :: r, 0, h, _ => by
    have hb : b = 39 := by simpa using h
    subst hb
    conv => lhs; unfold qs
    rw [if_neg (fun e => e rfl)]
    by_cases hc : c = 39
    · rw [if_pos hc, if_pos (by simp [hc])]
      rfl
    · rw [if_neg hc, if_neg (by simpa using hc)]
  | b :: c :: r, i + 1, h, h2 => by
    have hb : b ≠ 39 := fun e => h2 0 (by omega) (by simp [e])
    have ih := qs_at (c :: r) i (by simpa using h) (fun k hk => by simpa using h2 (k + 1) (by omega))
    conv => lhs; unfold qs
    rw [if_pos hb, ih]
    have e1 : (b :: c :: r)[i + 1 + 1]? = (c :: r)[i + 1]? := by simp
    have e2 : (b :: c :: r).drop (i + 1 + 2) = (c :: r).drop (i + 2) := by rw [show i + 1 + 2 = (i + 2) + 1 from rfl, List.drop_succ_cons]
    rw [e1, e2]
    by_cases hc : (c :: r)[i + 1]? = some 39
    · rw [if_pos hc, if_pos hc]
      cases qs ((c :: r).drop (i + 2)) with
      | none => rfl
      | some n => simp; omega
    · rw [if_neg hc, if_neg hc]
      rfl

/-! ### What a text begins with, and its beginning does -/
theorem head_take {T : List UInt8} {n : Nat} (h : 1 ≤ n) : (T.take n).head? = T.head? := by
  cases T with
  | nil => simp
  | cons b r => obtain ⟨m, rfl⟩ : ∃ m, n = m + 1 := ⟨n - 1, by omega⟩; rfl
theorem sz_take {T : List UInt8} {n : Nat} (h : fsz T ≤ n) : firstK (T.take n) = firstK T ∧ fsz (T.take n) = fsz T := by
  cases hf : firstK T with
  | none =>
    have e : firstK (T.take n) = none := by
      cases h2 : firstK (T.take n) with
      | none => rfl
      | some j =>
        obtain ⟨p, hp, hpT, _⟩ := fsz_spells h2
        have hj := (firstK_some.1 h2).1
        exact absurd (firstK_none.1 hf j hj) (sz_of hp (hpT.trans (List.take_prefix n T)))
    refine ⟨e, ?_⟩
    unfold fsz
    rw [e, hf]
  | some k =>
    obtain ⟨p, hp, hpT, hl⟩ := fsz_spells hf
    have hk := (firstK_some.1 hf).1
    obtain ⟨Y, hY⟩ := hpT
    have e : T.take n = p ++ Y.take (n - p.length) := by
      rw [← hY, List.take_append, List.take_of_length_le (by omega)]
    rw [e, hl]
    exact first_spell hk hp _
theorem cls_take {T : List UInt8} {n : Nat} (h : fsz T ≤ n) : clsT (T.take n) = clsT T ∧ glT (T.take n) = glT T := by
  unfold clsT glT
  rw [(sz_take h).1]
  exact ⟨rfl, rfl⟩
/-- A byte that no sign begins with. -/
def noHead (b : UInt8) : Bool := isB b || isW b || b == 39
theorem no_head : ∀ k, k < 38 → (gl k).head?.all (fun b => !noHead b) = true ∧ (di k).head?.all (fun b => !noHead b) = true := by decide +kernel
theorem firstK_noHead {T : List UInt8} {b : UInt8} (h : T.head? = some b) (hb : noHead b = true) : firstK T = none := by
  cases hf : firstK T with
  | none => rfl
  | some k =>
    obtain ⟨p, ⟨hp, hp2⟩, hpT, _⟩ := fsz_spells hf
    have hk := (firstK_some.1 hf).1
    have hh : p.head? = some b := by
      obtain ⟨Y, hY⟩ := hpT
      cases p with
      | nil => exact absurd rfl hp
      | cons c q => rw [← hY] at h; exact h
    obtain ⟨h1, h2⟩ := no_head k hk
    rcases hp2 with e | e
    · rw [← e, hh] at h1; simp [hb] at h1
    · rw [← e, hh] at h2; simp [hb] at h2
theorem cls_none {T : List UInt8} (h : firstK T = none) : clsT T = 0 ∧ glT T = [] ∧ fsz T = 0 := by
  unfold clsT glT fsz
  rw [h]
  exact ⟨rfl, rfl, rfl⟩
theorem fsz_ne {T : List UInt8} (h : clsT T ≠ 0) : fsz T ≠ 0 := by
  unfold clsT at h
  cases hf : firstK T with
  | none => rw [hf] at h; exact absurd rfl h
  | some k => have := fsz_pos hf; omega
end Go.Proofs.YthbiflmmlcmncaaDoor
