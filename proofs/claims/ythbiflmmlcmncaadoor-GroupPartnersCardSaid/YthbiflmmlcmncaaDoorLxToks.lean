/- What follows of the tokens: they are the line, none is empty; each is itself, alone. Nothing of the program stands here. -/
import Derived.Test.YthbiflmmlcmncaaDoorLxMath
namespace Go.Proofs.YthbiflmmlcmncaaDoor
open Go Go.RowKit

theorem ite_tk {c : Prop} [Decidable c] {x : Tk} (hx : x.kind ≠ 0) : (if c then noTk else x) = noTk ↔ c := by
  by_cases h : c
  · simp [h]
  · rw [if_neg h]
    exact ⟨fun e => absurd (by rw [e]; rfl) hx, fun e => absurd e h⟩
theorem ite_tk2 {c : Prop} [Decidable c] {x : Tk} (hx : x.kind ≠ 0) : (if c then x else noTk) = noTk ↔ ¬ c := by
  by_cases h : c
  · rw [if_pos h]
    exact ⟨fun e => absurd (by rw [e]; rfl) hx, fun e => absurd h e⟩
  · simp [h]
theorem rB_none {T : List UInt8} : rB T = noTk ↔ ∀ b, T.head? = some b → isB b = false := by
  rw [← nOf_zero]; exact ite_tk (by simp)
theorem rR_none {T : List UInt8} : rR T = noTk ↔ clsT T ≠ 6 := ite_tk2 (by simp)
theorem rQ_none {T : List UInt8} : rQ T = noTk ↔ T.head? ≠ some 39 := ite_tk2 (by cases qs T.tail <;> simp [rqOf])
theorem mz_zero {T : List UInt8} : mz T = 0 ↔ clsT T ≠ 5 := by
  unfold mz
  by_cases h : clsT T = 5
  · rw [if_pos h]
    have := fsz_ne (T := T) (by omega)
    simp [h, this]
  · simp [h]
theorem rN_none {T : List UInt8} : rN T = noTk ↔ clsT T ≠ 5 ∧ ∀ b, T.head? = some b → isD b = false := by
  have h1 : rN T = noTk ↔ mz T + nOf isD (T.drop (mz T)) = 0 := ite_tk (by split <;> simp)
  rw [h1, ← mz_zero]
  constructor
  · intro h
    have h2 : mz T = 0 := by omega
    refine ⟨h2, ?_⟩
    rw [h2, List.drop_zero] at h
    exact nOf_zero.1 (by omega)
  · rintro ⟨h2, h3⟩
    rw [h2, List.drop_zero, nOf_zero.2 h3]
theorem rW_none {T : List UInt8} : rW T = noTk ↔ ∀ b, T.head? = some b → isL b = false := by
  rw [← nOf_zero]; exact ite_tk (by split <;> simp)
theorem rS_none {T : List UInt8} : rS T = noTk ↔ kindC (clsT T) = 0 := by
  unfold rS
  by_cases h : kindC (clsT T) = 0
  · simp [h]
  · rw [if_neg h]
    exact ⟨fun e => absurd (congrArg Tk.kind e) h, fun e => absurd e h⟩

/-- What a rule tells: nothing, or some of the next bytes. -/
def Fits (T : List UInt8) (x : Tk) : Prop := x = noTk ∨ ∃ n, 1 ≤ n ∧ n ≤ T.length ∧ x.text = T.take n ∧ 1 ≤ x.kind ∧ x.kind ≤ 10
theorem fits_of {T : List UInt8} {x : Tk} (n : Nat) (h1 : 1 ≤ n) (h2 : n ≤ T.length) (h3 : x.text = T.take n) (h4 : 1 ≤ x.kind) (h5 : x.kind ≤ 10) : Fits T x := .inr ⟨n, h1, h2, h3, h4, h5⟩
theorem nOf_pos {p : UInt8 → Bool} {T : List UInt8} {b : UInt8} (h : T.head? = some b) (hb : p b = true) : 1 ≤ nOf p T := by
  apply Nat.one_le_iff_ne_zero.2
  intro e
  have := nOf_zero.1 e b h
  rw [hb] at this
  cases this
theorem kindC_le9 (c : Nat) : kindC c ≤ 9 := by unfold kindC; (repeat' split) <;> omega
section
variable (st : List UInt8 → Nat)
theorem fits_rules {T : List UInt8} (h0 : T ≠ []) (hst : 1 ≤ st T ∧ st T ≤ T.length) : ∀ x ∈ [rB T, rR T, rQ T, rN T, rW T, rS T, rO st T], Fits T x := by
  have hl : 1 ≤ T.length := List.length_pos_iff.2 h0
  intro x hx
  simp only [List.mem_cons, List.not_mem_nil, or_false] at hx
  rcases hx with rfl | rfl | rfl | rfl | rfl | rfl | rfl
  · unfold rB
    split
    · exact .inl rfl
    · exact fits_of _ (by omega) (nOf_le _ _) rfl (by simp) (by simp)
  · unfold rR
    split
    · exact fits_of _ hl (Nat.le_refl _) (List.take_length).symm (by simp) (by simp)
    · exact .inl rfl
  · unfold rQ
    split
    · rename_i hh
      cases hq : qs T.tail with
      | none => exact fits_of _ hl (Nat.le_refl _) (List.take_length).symm (by simp [rqOf]) (by simp [rqOf])
      | some n =>
        have := qs_le _ _ hq
        rw [List.length_tail] at this
        exact fits_of (n + 1) (by omega) (by omega) rfl (by simp [rqOf]) (by simp [rqOf])
    · exact .inl rfl
  · have hz : mz T + nOf isD (T.drop (mz T)) ≤ T.length := by
      have h1 := nOf_le isD (T.drop (mz T))
      rw [List.length_drop] at h1
      have h2 : mz T ≤ T.length := by
        unfold mz
        split
        · exact fsz_le T
        · exact Nat.zero_le _
      omega
    unfold rN
    split
    · exact .inl rfl
    · split
      · exact fits_of _ (by omega) hz rfl (by simp) (by simp)
      · exact fits_of _ (by omega) hz rfl (by simp) (by simp)
  · unfold rW
    split
    · exact .inl rfl
    · rename_i hn
      have hp : 1 ≤ nOf isW T := by
        cases T with
        | nil => exact absurd rfl h0
        | cons b r =>
          refine nOf_pos (b := b) rfl ?_
          have hb : isL b = true := by
            cases hlb : isL b with
            | true => rfl
            | false => exact absurd (nOf_zero.2 (fun c hc => by cases hc; exact hlb)) hn
          unfold isW
          rw [hb]; rfl
      split
      · exact fits_of _ hp (nOf_le _ _) rfl (by simp) (by simp)
      · exact fits_of _ hp (nOf_le _ _) rfl (by simp) (by simp)
  · unfold rS
    split
    · exact .inl rfl
    · rename_i hk
      have hc : clsT T ≠ 0 := by intro e; rw [e] at hk; exact hk rfl
      have := fsz_ne hc
      exact fits_of _ (by omega) (fsz_le T) rfl (by show 1 ≤ kindC _; omega) (by have := kindC_le9 (clsT T); show kindC _ ≤ 10; omega)
  · exact fits_of _ hst.1 hst.2 rfl (by simp [rO]) (by simp [rO])
theorem firstTk_mem : ∀ {l : List Tk} {x : Tk}, firstTk l = x → x ≠ noTk → x ∈ l
  | [], x, h, hx => absurd h.symm hx
  | t :: l, x, h, hx => by
    unfold firstTk at h
    split at h
    · exact List.mem_cons_of_mem _ (firstTk_mem h hx)
    · rw [h]; exact List.mem_cons_self
theorem firstTk_ne : ∀ {l : List Tk} {y : Tk}, y ∈ l → y ≠ noTk → firstTk l ≠ noTk
  | t :: l, y, h, hy => by
    unfold firstTk
    split
    · rename_i ht
      rcases List.mem_cons.1 h with rfl | h2
      · exact absurd ht hy
      · exact firstTk_ne h2 hy
    · rename_i ht; exact ht
/-- The first token has some of the next bytes. -/
theorem tk1_fits {T : List UInt8} (h0 : T ≠ []) (hst : 1 ≤ st T ∧ st T ≤ T.length) : ∃ n, 1 ≤ n ∧ n ≤ T.length ∧ (tk1 st T).text = T.take n ∧ 1 ≤ (tk1 st T).kind ∧ (tk1 st T).kind ≤ 10 := by
  have hne : tk1 st T ≠ noTk := firstTk_ne (y := rO st T) (by simp) (fun e => by have := congrArg Tk.kind e; cases this)
  have hm := firstTk_mem (rfl : firstTk _ = tk1 st T) hne
  rcases fits_rules st h0 hst _ hm with h | h
  · exact absurd h hne
  · exact h

theorem glT_len (T : List UInt8) : (glT T).length ≤ 3 := by
  unfold glT
  cases hf : firstK T with
  | none => simp
  | some k => exact gl_len k (firstK_some.1 hf).1
theorem short_len (m d : List UInt8) (hm : m.length ≤ 3) (hd : d.length ≤ 18) : (short m d).length ≤ 30 := by
  have h := (List.dropWhile_suffix (l := d) (fun b => b == 48)).length_le
  unfold short
  split
  · simp
  · rw [List.length_append]; omega
theorem glyph_rules (T : List UInt8) : ∀ x ∈ [rB T, rR T, rQ T, rN T, rW T, rS T, rO st T], x.glyph.length ≤ 30 := by
  have hg := glT_len T
  intro x hx
  simp only [List.mem_cons, List.not_mem_nil, or_false] at hx
  rcases hx with rfl | rfl | rfl | rfl | rfl | rfl | rfl
  · unfold rB; split <;> simp [noTk]
  · unfold rR; split
    · show (glT T).length ≤ 30; omega
    · simp [noTk]
  · unfold rQ; split
    · cases qs T.tail <;> simp [rqOf]
    · simp [noTk]
  · unfold rN
    split
    · simp [noTk]
    · split
      · simp
      · rename_i h1 h2
        refine short_len _ _ ?_ ?_
        · unfold mg; split
          · exact hg
          · simp
        · rw [List.length_take]; omega
  · unfold rW; (repeat' split) <;> simp [noTk]
  · unfold rS; split
    · simp [noTk]
    · show (glT T).length ≤ 30; omega
  · simp [rO]
theorem glyph_len (T : List UInt8) : (tk1 st T).glyph.length ≤ 30 := by
  by_cases h : tk1 st T = noTk
  · rw [h]; simp [noTk]
  · exact glyph_rules st T _ (firstTk_mem (rfl : firstTk _ = tk1 st T) h)

/-! ### All the tokens -/
theorem toks_nil (n : Nat) : toks st [] n = [] := by cases n <;> rfl
theorem toks_drop : ∀ (T : List UInt8) (n : Nat), toks st T n = toks st (T.drop n) 0
  | [], n => by simp [toks_nil]
  | _ :: _, 0 => rfl
  | _ :: r, n + 1 => by rw [List.drop_succ_cons, ← toks_drop r n]; rfl
variable (hst : ∀ T : List UInt8, T ≠ [] → 1 ≤ st T ∧ st T ≤ T.length)
include hst
theorem tk1_len {T : List UInt8} (h0 : T ≠ []) : 1 ≤ (tk1 st T).text.length ∧ (tk1 st T).text.length ≤ T.length ∧ (tk1 st T).text = T.take (tk1 st T).text.length := by
  obtain ⟨n, h1, h2, h3, _⟩ := tk1_fits st h0 (hst T h0)
  have h4 : (tk1 st T).text.length = n := by rw [h3, List.length_take]; omega
  rw [h4]
  exact ⟨h1, h2, h3⟩
theorem toks_cons {T : List UInt8} (h0 : T ≠ []) : toks st T 0 = tk1 st T :: toks st (T.drop (tk1 st T).text.length) 0 := by
  obtain ⟨h1, _, _⟩ := tk1_len st hst h0
  cases T with
  | nil => exact absurd rfl h0
  | cons b r =>
    obtain ⟨m, hm⟩ : ∃ m, (tk1 st (b :: r)).text.length = m + 1 := ⟨_, (Nat.succ_pred_eq_of_pos h1).symm⟩
    rw [hm, List.drop_succ_cons, ← toks_drop]
    show tk1 st (b :: r) :: toks st r ((tk1 st (b :: r)).text.length - 1) = _
    rw [hm]
    rfl
/-- The tokens' texts are the line. -/
theorem toks_text : ∀ (m : Nat) (T : List UInt8), T.length ≤ m → (toks st T 0).flatMap (·.text) = T
  | m, [], _ => by rw [toks_nil]; rfl
  | 0, _ :: _, h => by simp at h
  | m + 1, b :: r, h => by
    have h0 : b :: r ≠ [] := by simp
    obtain ⟨h1, h2, h3⟩ := tk1_len st hst h0
    rw [toks_cons st hst h0, List.flatMap_cons, toks_text m _ (by rw [List.length_drop]; omega)]
    conv => lhs; lhs; rw [h3]
    exact List.take_append_drop _ _
/-- There are no more of them than bytes. -/
theorem toks_len : ∀ (m : Nat) (T : List UInt8), T.length ≤ m → (toks st T 0).length ≤ T.length
  | m, [], _ => by rw [toks_nil]; exact Nat.le_refl _
  | 0, _ :: _, h => by simp at h
  | m + 1, b :: r, h => by
    have h0 : b :: r ≠ [] := by simp
    obtain ⟨h1, h2, h3⟩ := tk1_len st hst h0
    rw [toks_cons st hst h0, List.length_cons]
    have := toks_len m ((b :: r).drop (tk1 st (b :: r)).text.length) (by rw [List.length_drop]; omega)
    rw [List.length_drop] at this
    omega
/-- Each is told of a text. -/
theorem toks_mem : ∀ (m : Nat) (T : List UInt8), T.length ≤ m → ∀ x ∈ toks st T 0, ∃ U, U ≠ [] ∧ U.length ≤ T.length ∧ x = tk1 st U
  | m, [], _, x, hx => by rw [toks_nil] at hx; cases hx
  | 0, _ :: _, h, _, _ => by simp at h
  | m + 1, b :: r, h, x, hx => by
    have h0 : b :: r ≠ [] := by simp
    obtain ⟨h1, h2, h3⟩ := tk1_len st hst h0
    rw [toks_cons st hst h0] at hx
    rcases List.mem_cons.1 hx with rfl | hx
    · exact ⟨_, h0, Nat.le_refl _, rfl⟩
    · obtain ⟨U, hU, hl, e⟩ := toks_mem m ((b :: r).drop (tk1 st (b :: r)).text.length) (by rw [List.length_drop]; omega) x hx
      rw [List.length_drop] at hl
      exact ⟨U, hU, by omega, e⟩
end
end Go.Proofs.YthbiflmmlcmncaaDoor
