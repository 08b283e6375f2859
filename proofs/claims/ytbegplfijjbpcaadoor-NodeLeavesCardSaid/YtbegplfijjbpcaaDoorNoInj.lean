/- A show tells the kind and the text of what it is of. -/
import Derived.Test.YtbegplfijjbpcaaDoorNoShowM
namespace Go.Proofs.YtbegplfijjbpcaaDoor.No
open Go Go.RowKit Go.Shelf

theorem hex_inj : ∀ a, a < 16 → ∀ b, b < 16 → hexB a = hexB b → a = b := by decide
theorem good_ne {c : UInt8} (h : badB c = false) : c ≠ 37 := fun e => by
  have := (bad_iff c).2 (.inr (.inr (.inl (by rw [e]; rfl))))
  rw [this] at h
  cases h
theorem esc_bad {c : UInt8} (h : badB c = true) : escB c = [37, hexB (c.toNat / 16), hexB (c.toNat % 16)] := by unfold escB; rw [if_pos h]
theorem esc_good {c : UInt8} (h : badB c = false) : escB c = [c] := by unfold escB; rw [h]; rfl
theorem word_cons (c : UInt8) (X : List UInt8) : wordB (c :: X) = escB c ++ wordB X := rfl
theorem word_inj : ∀ a b : List UInt8, wordB a = wordB b → a = b
  | [], [], _ => rfl
  | [], d :: Y, h => by
    rw [word_cons] at h
    cases hb : badB d
    · rw [esc_good hb] at h; cases h
    · rw [esc_bad hb] at h; cases h
  | c :: X, [], h => by
    rw [word_cons] at h
    cases hb : badB c
    · rw [esc_good hb] at h; cases h
    · rw [esc_bad hb] at h; cases h
  | c :: X, d :: Y, h => by
    rw [word_cons, word_cons] at h
    cases hc : badB c <;> cases hd : badB d
    · rw [esc_good hc, esc_good hd] at h
      injection h with h1 h2
      rw [h1, word_inj X Y h2]
    · rw [esc_good hc, esc_bad hd] at h
      injection h with h1 h2
      exact absurd h1 (good_ne hc)
    · rw [esc_bad hc, esc_good hd] at h
      injection h with h1 h2
      exact absurd h1.symm (good_ne hd)
    · rw [esc_bad hc, esc_bad hd] at h
      injection h with h1 h2
      injection h2 with h2 h3
      injection h3 with h3 h4
      have l1 := UInt8.toNat_lt c
      have l2 := UInt8.toNat_lt d
      have e1 := hex_inj _ (by omega) _ (by omega) h2
      have e2 := hex_inj _ (by omega) _ (by omega) h3
      have e : c = d := UInt8.toNat_inj.1 (by omega)
      rw [e, word_inj X Y h4]
theorem dig_inj : ∀ a, a < 15 → ∀ b, b < 15 → ∀ (X Y : List UInt8), digB ((a : Nat) : Int) ++ 58 :: X = digB ((b : Nat) : Int) ++ 58 :: Y → a = b ∧ X = Y := fun a ha b hb X Y h => by
  have hs : ∀ k, k < 15 → (digB ((k : Nat) : Int) = [49, (38 + k).toUInt8] ∧ 10 ≤ k) ∨ (digB ((k : Nat) : Int) = [(48 + k).toUInt8] ∧ k ≤ 9) := by decide
  have hn : ∀ k, k < 15 → (38 + k).toUInt8 ≠ 58 ∧ (48 + k).toUInt8 ≠ 58 ∨ 10 ≤ k := by decide
  have hm : ∀ k, k < 15 → 10 ≤ k → (38 + k).toUInt8 ≠ 58 := by decide
  have h49 : (49 : UInt8) ≠ 58 := by decide
  have i1 : ∀ a, a < 15 → ∀ b, b < 15 → (38 + a).toUInt8 = (38 + b).toUInt8 → a = b := by decide
  have i2 : ∀ a, a < 15 → ∀ b, b < 15 → (48 + a).toUInt8 = (48 + b).toUInt8 → a = b := by decide
  rcases hs a ha with ⟨ea, la⟩ | ⟨ea, la⟩ <;> rcases hs b hb with ⟨eb, lb⟩ | ⟨eb, lb⟩ <;> rw [ea, eb] at h
  · injection h with _ h
    injection h with h1 h2
    injection h2 with _ h2
    exact ⟨i1 a ha b hb h1, h2⟩
  · injection h with _ h
    injection h with h1 h2
    exact absurd h1 (hm a ha la)
  · injection h with _ h
    injection h with h1 h2
    exact absurd h1.symm (hm b hb lb)
  · injection h with h1 h
    injection h with _ h2
    exact ⟨i2 a ha b hb h1, h2⟩
theorem head_inj {x y : Nd} (hx : 1 ≤ x.kind ∧ x.kind ≤ 14) (hy : 1 ≤ y.kind ∧ y.kind ≤ 14) (h : headB x = headB y) : x.kind = y.kind ∧ x.text = y.text := by
  obtain ⟨a, ha⟩ : ∃ a : Nat, x.kind = (a : Int) := ⟨x.kind.toNat, by omega⟩
  obtain ⟨b, hb⟩ : ∃ a : Nat, y.kind = (a : Int) := ⟨y.kind.toNat, by omega⟩
  unfold headB at h
  rw [ha, hb] at h
  have := dig_inj a (by omega) b (by omega) _ _ h
  exact ⟨by omega, word_inj _ _ this.2⟩
theorem head_ne (x : Nd) : headB x ≠ [] := by
  unfold headB
  intro h
  have := congrArg List.length h
  rw [List.length_append, List.length_cons] at this
  simp at this

/-! ### What stands ahead tells the same -/
section
variable {α : Type}
theorem val_app (comb : Nat → Nd → List α → α) (d : α) (S R : List Nd) {i : Nat} (h : i < S.length) : val comb d (S ++ R) i = val comb d S i := by
  obtain ⟨r, hr⟩ := tab_app comb d S R
  unfold val
  rw [hr, List.getElem?_append_left (by rw [tab_len]; exact h)]
end
theorem root_at (P : List Nd) (r : Nd) : (P ++ [r])[P.length]? = some r := by simp
/-- The show of a root, of what stands ahead of it and its own. -/
theorem show_root {P : List Nd} {r : Nd} (h : KidsOk (P ++ [r])) : val showC [] (P ++ [r]) P.length = showC P.length r (r.kids.map fun k => val showC [] P k.toNat) := by
  rw [val_eq showC [] (root_at P r) (h _ _ (root_at P r))]
  congr 1
  apply List.map_congr_left
  intro k hk
  have := h _ _ (root_at P r) k hk
  exact val_app showC [] P [r] (by omega)
/-- Two roots over the same kids: they show the same just if they are the same. -/
theorem show_same {P : List Nd} {r s : Nd} (hk : r.kids = s.kids) (hr : RightT (P ++ [r])) (hs : RightT (P ++ [s])) (h1 : 1 ≤ r.kind ∧ r.kind ≤ 14) (h2 : 1 ≤ s.kind ∧ s.kind ≤ 14) : showA (P ++ [r]) = showA (P ++ [s]) ↔ r = s := by
  constructor
  · intro h
    unfold showA at h
    rw [(right_iff _).2 hr, (right_iff _).2 hs, if_pos rfl, if_pos rfl] at h
    simp only [List.length_append, List.length_singleton, Nat.add_sub_cancel] at h
    rw [show_root hr.kidsOk, show_root hs.kidsOk, hk] at h
    have hh : headB r = headB s := by
      unfold showC at h
      rw [hk] at h
      by_cases e : s.kids = []
      · rw [if_pos e, if_pos e] at h
        exact h
      · rw [if_neg e, if_neg e] at h
        have h3 := List.append_cancel_right h
        injection h3 with _ h3
        exact List.append_cancel_right h3
    have := head_inj h1 h2 hh
    cases r
    cases s
    simp only [Nd.mk.injEq]
    exact ⟨this.1, this.2, hk⟩
  · rintro rfl
    rfl
theorem show_ne {T : List Nd} (h : RightT T) : showA T ≠ [] := by
  have hp := h.pos
  unfold showA
  rw [(right_iff _).2 h, if_pos rfl]
  obtain ⟨x, hx⟩ : ∃ x, T[T.length - 1]? = some x := ⟨_, List.getElem?_eq_getElem (by omega)⟩
  rw [show_eq h.kidsOk hx]
  split
  · exact head_ne x
  · intro h
    cases h
end Go.Proofs.YtbegplfijjbpcaaDoor.No
