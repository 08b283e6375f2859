/- Plain facts on texts that are turned: what is turned stays; a blank cuts; no backtick. Nothing of the program stands here. -/
import Derived.Test.YtldffmnmofmkaaaDoorGlMath
namespace Go.Proofs.YtldffmnmofmkaaaDoor
open Go Go.RowKit

/-- A byte that stands in a spelling behind its first one: no spelling begins so. -/
def tailB (b : UInt8) : Bool := (128 ≤ b && b < 192) || (97 ≤ b && b ≤ 122)
theorem tails : ∀ k, k < 38 → ((gl k).drop 1).all tailB = true ∧ ((di k).drop 1).all tailB = true := by decide +kernel
theorem heads : ∀ k, k < 38 → (gl k).head?.all (fun b => !tailB b) = true ∧ (di k).head?.all (fun b => !tailB b) = true := by decide +kernel
theorem gl_head : ∀ k, k < 38 → (gl k).head? ≠ some 96 := by decide +kernel
theorem di_head : ∀ k, k < 38 → (di k).head?.all (fun b => b == 96) = true := by decide +kernel
theorem no_blank : ∀ k, k < 38 → (gl k).all (fun b => b != 32) = true ∧ (di k).all (fun b => b != 32) = true := by decide +kernel
theorem short : ∀ k, k < 38 → di k ≠ [] → 2 ≤ (gl k).length := by decide +kernel
theorem single : ∀ k, k < 38 → di k = [] → (gl k).length = 1 := by decide +kernel

theorem spells_tail {k : Nat} (hk : k < 38) {p : List UInt8} (hp : Spells k p) : (p.drop 1).all tailB = true := by
  rcases hp with ⟨_, rfl | rfl⟩
  · exact (tails k hk).1
  · exact (tails k hk).2
theorem spells_head {k : Nat} (hk : k < 38) {p : List UInt8} (hp : Spells k p) : ∃ b r, p = b :: r ∧ tailB b = false := by
  have h : p.head?.all (fun b => !tailB b) = true := by
    rcases hp with ⟨_, rfl | rfl⟩
    · exact (heads k hk).1
    · exact (heads k hk).2
  cases p with
  | nil => exact absurd rfl hp.1
  | cons b r => exact ⟨b, r, rfl, by simpa using h⟩
theorem spells_blank {k : Nat} (hk : k < 38) {p : List UInt8} (hp : Spells k p) : 32 ∉ p := fun h => by
  have h2 : p.all (fun b => b != 32) = true := by
    rcases hp with ⟨_, rfl | rfl⟩
    · exact (no_blank k hk).1
    · exact (no_blank k hk).2
  have := List.all_eq_true.1 h2 32 h
  simp at this

/-- A text that begins with a sign: the spelling and the rest. -/
theorem first_split {T : List UInt8} {k : Nat} (h : firstK T = some k) : ∃ p, k < 38 ∧ Spells k p ∧ fsz T = p.length ∧ T = p ++ T.drop (fsz T) := by
  obtain ⟨p, hp, hpre, e⟩ := fsz_spells h
  obtain ⟨Y, rfl⟩ := hpre
  refine ⟨p, (firstK_some.1 h).1, hp, e, ?_⟩
  rw [e, List.drop_left]
theorem tail_none {b : UInt8} (h : tailB b = true) (r : List UInt8) : firstK (b :: r) = none := by
  cases hf : firstK (b :: r) with
  | none => rfl
  | some k =>
    obtain ⟨p, hk, hp, _, e⟩ := first_split hf
    obtain ⟨c, q, rfl, hc⟩ := spells_head hk hp
    rw [List.cons_append] at e
    obtain ⟨rfl, _⟩ := List.cons.inj e
    rw [h] at hc; cases hc

section
variable {f : Nat → List UInt8} (hf : ∀ k, k < 38 → Spells k (f k))
include hf
/-- Bytes that begin no spelling stand in what is turned only where they stood. -/
theorem tail_pre : ∀ (p r : List UInt8), p.all tailB = true → p <+: turn f r 0 → p <+: r
  | [], r, _, _ => List.nil_prefix
  | c :: p, [], _, h => by rw [turn_nil] at h; exact h
  | c :: p, d :: r, ht, h => by
    have hc : tailB c = true := by simp at ht; exact ht.1
    cases hh : firstK (d :: r) with
    | some k =>
      rw [turn_hit f hh] at h
      obtain ⟨b, q, e, hb⟩ := spells_head (firstK_some.1 hh).1 (hf k (firstK_some.1 hh).1)
      rw [e, List.cons_append] at h
      obtain ⟨Z, e2⟩ := h
      rw [List.cons_append] at e2
      obtain ⟨rfl, _⟩ := List.cons.inj e2
      rw [hc] at hb; cases hb
    | none =>
      rw [turn_none f hh] at h
      rw [List.cons_prefix_cons] at h ⊢
      exact ⟨h.1, tail_pre p r (by simp at ht; simpa using ht.2) h.2⟩
theorem no_new {b : UInt8} {r : List UInt8} (h : firstK (b :: r) = none) : firstK (b :: turn f r 0) = none := by
  cases hh : firstK (b :: turn f r 0) with
  | none => rfl
  | some k =>
    obtain ⟨p, hk, hp, _, e⟩ := first_split hh
    obtain ⟨c, q, rfl, _⟩ := spells_head hk hp
    have hpre : c :: q <+: b :: turn f r 0 := ⟨_, e.symm⟩
    rw [List.cons_prefix_cons] at hpre
    obtain ⟨rfl, hq⟩ := hpre
    have := tail_pre hf q r (by simpa using spells_tail hk hp) hq
    exact absurd (firstK_none.1 h k hk) (sz_of hp (List.cons_prefix_cons.2 ⟨rfl, this⟩))
/-- WHAT IS TURNED, turned to glyphs, is the text, turned to glyphs. -/
theorem turn_again : ∀ (m : Nat) (T : List UInt8), T.length ≤ m → turn gl (turn f T 0) 0 = turn gl T 0
  | m, [], _ => by simp [turn]
  | 0, b :: r, h => by simp at h
  | m + 1, b :: r, h => by
    simp only [List.length_cons] at h
    cases hh : firstK (b :: r) with
    | none => rw [turn_none f hh, turn_none gl hh, turn_none gl (no_new hf hh), turn_again m r (by omega)]
    | some k =>
      have hk := (firstK_some.1 hh).1
      have hp := fsz_pos hh
      obtain ⟨e1, e2⟩ := first_spell hk (hf k hk) (turn f ((b :: r).drop (fsz (b :: r))) 0)
      rw [turn_hit f hh, turn_hit gl e1, e2, List.drop_left, turn_hit gl hh, turn_again m _ (by rw [List.length_drop, List.length_cons]; omega)]
end

theorem back_ty (T : List UInt8) : turn gl (turn ty T 0) 0 = turn gl T 0 := turn_again (fun _ hk => ty_spells hk) _ T (Nat.le_refl _)
theorem back_gl (T : List UInt8) : turn gl (turn gl T 0) 0 = turn gl T 0 := turn_again (fun _ hk => gl_spells hk) _ T (Nat.le_refl _)

/-- A text with no backtick stays. -/
theorem turn_plain : ∀ (m : Nat) (T : List UInt8), T.length ≤ m → 96 ∉ T → turn gl T 0 = T
  | m, [], _, _ => rfl
  | 0, b :: r, h, _ => by simp at h
  | m + 1, b :: r, h, hn => by
    simp only [List.length_cons] at h
    cases hh : firstK (b :: r) with
    | none => rw [turn_none gl hh, turn_plain m r (by omega) (fun e => hn (List.mem_cons_of_mem _ e))]
    | some k =>
      obtain ⟨p, hk, hp, e1, e2⟩ := first_split hh
      have hpos := fsz_pos hh
      have hsub : ∀ x, x ∈ (b :: r).drop (fsz (b :: r)) → x ∈ b :: r := fun x hx => List.mem_of_mem_drop hx
      rw [turn_hit gl hh, turn_plain m _ (by rw [List.length_drop, List.length_cons]; omega) (fun e => hn (hsub _ e))]
      rcases hp with ⟨hp1, rfl | rfl⟩
      · exact e2.symm
      · exfalso
        have h96 := di_head k hk
        cases hd : di k with
        | nil => exact hp1 hd
        | cons c q =>
          rw [hd] at h96 e2
          have : c = 96 := by simpa using h96
          subst this
          exact hn (e2 ▸ List.mem_append_left _ (List.mem_cons_self ..))

theorem ty_short {k : Nat} (hk : k < 38) {p : List UInt8} (hp : Spells k p) : (ty k).length ≤ p.length := by
  unfold ty
  split
  · rename_i h
    rcases hp with ⟨hp1, rfl | rfl⟩
    · exact Nat.le_refl _
    · exact absurd h hp1
  · rename_i h
    have h2 : (di k).length = 2 := by
      rcases di_len k hk with e | e
      · exact absurd (List.eq_nil_of_length_eq_zero e) h
      · exact e
    rcases hp with ⟨hp1, rfl | rfl⟩
    · rw [h2]; exact short k hk h
    · exact Nat.le_refl _
theorem turn_short : ∀ (m : Nat) (T : List UInt8), T.length ≤ m → (turn ty T 0).length ≤ T.length
  | m, [], _ => by simp [turn]
  | 0, b :: r, h => by simp at h
  | m + 1, b :: r, h => by
    simp only [List.length_cons] at h
    cases hh : firstK (b :: r) with
    | none =>
      have := turn_short m r (by omega)
      rw [turn_none ty hh]
      simp only [List.length_cons]
      omega
    | some k =>
      obtain ⟨p, hk, hp, e1, e2⟩ := first_split hh
      have hpos := fsz_pos hh
      have hl := fsz_le (b :: r)
      have h1 := turn_short m ((b :: r).drop (fsz (b :: r))) (by rw [List.length_drop, List.length_cons]; omega)
      have h2 := ty_short hk hp
      rw [turn_hit ty hh, List.length_append]
      rw [List.length_drop] at h1
      rw [← e1] at h2
      omega

/-! ### A blank cuts -/
theorem pre_cut {p s t : List UInt8} (hb : 32 ∉ p) : Lib.hasPrefix (s ++ 32 :: t) p = Lib.hasPrefix s p := by
  rw [Bool.eq_iff_iff]
  constructor
  · intro h
    have h1 : p <+: s ++ 32 :: t := List.isPrefixOf_iff_prefix.1 h
    rcases Nat.le_total p.length s.length with hl | hl
    · exact List.isPrefixOf_iff_prefix.2 (List.prefix_of_prefix_length_le h1 (List.prefix_append s _) hl)
    · have h2 : s <+: p := List.prefix_of_prefix_length_le (List.prefix_append s _) h1 hl
      obtain ⟨Z, rfl⟩ := h2
      rw [List.prefix_append_right_inj] at h1
      cases Z with
      | nil => rw [List.append_nil]; exact List.isPrefixOf_iff_prefix.2 (List.prefix_refl _)
      | cons c q =>
        rw [List.cons_prefix_cons] at h1
        exact absurd (List.mem_append_right _ (h1.1 ▸ List.mem_cons_self ..)) hb
  · intro h
    exact List.isPrefixOf_iff_prefix.2 ((List.isPrefixOf_iff_prefix.1 h).trans (List.prefix_append _ _))
theorem sz_cut (s t : List UInt8) {k : Nat} (hk : k < 38) : sz (s ++ 32 :: t) k = sz s k := by
  have h1 : 32 ∉ gl k := spells_blank hk (gl_spells hk)
  have h2 : 32 ∉ di k := fun h => by
    have := List.all_eq_true.1 (no_blank k hk).2 32 h
    simp at this
  unfold sz
  rw [pre_cut h1, pre_cut h2]
theorem first_cut (s t : List UInt8) : firstK (s ++ 32 :: t) = firstK s := by
  cases h : firstK s with
  | none => exact firstK_none.2 fun k hk => (sz_cut s t hk).trans (firstK_none.1 h k hk)
  | some k =>
    obtain ⟨h1, h2, h3⟩ := firstK_some.1 h
    exact firstK_some.2 ⟨h1, by rw [sz_cut s t h1]; exact h2, fun j hj => (sz_cut s t (by omega)).trans (h3 j hj)⟩
theorem fsz_cut (s t : List UInt8) : fsz (s ++ 32 :: t) = fsz s := by
  cases h : firstK s with
  | none => unfold fsz; rw [first_cut, h]
  | some k =>
    rw [fsz_some h, fsz_some ((first_cut s t).trans h), sz_cut s t (firstK_some.1 h).1]
theorem turn_cut (f : Nat → List UInt8) (t : List UInt8) : ∀ (m : Nat) (s : List UInt8), s.length ≤ m → turn f (s ++ 32 :: t) 0 = turn f s 0 ++ 32 :: turn f t 0
  | m, [], _ => by
    have : firstK (32 :: t) = none := (first_cut [] t).trans firstK_nil
    rw [List.nil_append, turn_none f this, turn_nil, List.nil_append]
  | 0, b :: r, h => by simp at h
  | m + 1, b :: r, h => by
    simp only [List.length_cons] at h
    have hc := first_cut (b :: r) t
    cases hh : firstK (b :: r) with
    | none =>
      rw [hh] at hc
      rw [turn_none f hh, List.cons_append]
      rw [List.cons_append] at hc
      rw [turn_none f hc, turn_cut f t m r (by omega)]
      rfl
    | some k =>
      rw [hh] at hc
      have hpos := fsz_pos hh
      have hl := fsz_le (b :: r)
      rw [turn_hit f hh, turn_hit f hc, fsz_cut, List.drop_append_of_le_length hl, turn_cut f t m _ (by rw [List.length_drop, List.length_cons]; omega), List.append_assoc]

/-! ### The plain answers -/
theorem turn_tails (f : Nat → List UInt8) (Y : List UInt8) : ∀ t : List UInt8, t.all tailB = true → turn f (t ++ Y) 0 = t ++ turn f Y 0
  | [], _ => rfl
  | b :: t, h => by
    simp only [List.all_cons, Bool.and_eq_true] at h
    rw [List.cons_append, turn_none f (tail_none h.1 _), turn_tails f Y t h.2]
    rfl
/-- Where no digraph stands, the next byte is copied. -/
theorem turn_gl_byte {b : UInt8} {r : List UInt8} (h : ∀ k, firstK (b :: r) = some k → b ≠ 96) : turn gl (b :: r) 0 = b :: turn gl r 0 := by
  cases hh : firstK (b :: r) with
  | none => exact turn_none gl hh
  | some k =>
    obtain ⟨p, hk, hp, e1, e2⟩ := first_split hh
    have hb := h k hh
    rcases hp with ⟨hp1, rfl | rfl⟩
    · cases hg : gl k with
      | nil => exact absurd hg (gl_ne k hk)
      | cons c q =>
        rw [turn_hit gl hh]
        rw [hg, List.cons_append] at e2
        obtain ⟨rfl, e3⟩ := List.cons.inj e2
        have ht := (tails k hk).1
        rw [hg] at ht
        rw [hg, List.cons_append, ← turn_tails gl _ q (by simpa using ht), ← e3]
    · exfalso
      have h96 := di_head k hk
      cases hd : di k with
      | nil => exact hp1 hd
      | cons c q =>
        rw [hd] at h96 e2
        have hc : c = 96 := by simpa using h96
        obtain ⟨rfl, _⟩ := List.cons.inj e2
        exact hb hc
/-- A sign that a backtick begins: its digraph. -/
theorem first_tick {r : List UInt8} {k : Nat} (h : firstK (96 :: r) = some k) : k < 38 ∧ di k ≠ [] ∧ fsz (96 :: r) = 2 := by
  obtain ⟨p, hk, hp, e1, e2⟩ := first_split h
  rcases hp with ⟨hp1, rfl | rfl⟩
  · exfalso
    have hg := gl_head k hk
    cases hgk : gl k with
    | nil => exact hp1 hgk
    | cons c q =>
      rw [hgk, List.cons_append] at e2
      rw [hgk] at hg
      obtain ⟨rfl, _⟩ := List.cons.inj e2
      exact hg rfl
  · refine ⟨hk, hp1, ?_⟩
    rcases di_len k hk with e | e
    · exact absurd (List.eq_nil_of_length_eq_zero e) hp1
    · rw [e1, e]
theorem turn_ty_byte {b : UInt8} {r : List UInt8} (h : ∀ k, firstK (b :: r) = some k → di k = []) : turn ty (b :: r) 0 = b :: turn ty r 0 := by
  cases hh : firstK (b :: r) with
  | none => exact turn_none ty hh
  | some k =>
    obtain ⟨p, hk, hp, e1, e2⟩ := first_split hh
    have hd := h k hh
    rcases hp with ⟨hp1, rfl | rfl⟩
    · have h1 := single k hk hd
      rw [turn_hit ty hh]
      have ht : ty k = gl k := by unfold ty; rw [if_pos hd]
      rw [ht]
      rw [h1] at e1
      rw [e1] at e2 ⊢
      match hg : gl k, h1 with
      | [c], _ =>
        rw [hg] at e2
        simp only [List.cons_append, List.nil_append, List.drop_succ_cons, List.drop_zero] at e2 ⊢
        rw [(List.cons.inj e2).1]
    · exact absurd hd hp1
end Go.Proofs.YtldffmnmofmkaaaDoor
