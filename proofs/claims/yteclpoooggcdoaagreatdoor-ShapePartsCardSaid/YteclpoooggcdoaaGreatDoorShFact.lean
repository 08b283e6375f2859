/- What shape's functions tell of right arrays: facts for the laws. -/
import Derived.Test.YteclpoooggcdoaaGreatDoorShA
namespace Go.Proofs.YteclpoooggcdoaaGreatDoor.Ar
open Go Go.RowKit

theorem wS_iota : whichS ⟨#[226, 141, 179]⟩ = 1 := by kernel_rfl
theorem wS_comma : whichS ⟨#[44]⟩ = 2 := by kernel_rfl
theorem wS_turn : whichS ⟨#[226, 140, 189]⟩ = 3 := by kernel_rfl
theorem wS_take : whichS ⟨#[226, 134, 145]⟩ = 4 := by kernel_rfl
theorem wS_drop : whichS ⟨#[226, 134, 147]⟩ = 5 := by kernel_rfl
theorem wS_count : whichS ⟨#[226, 137, 162]⟩ = 6 := by kernel_rfl
theorem rt_one (x : Int) : rightA ⟨false, false, [x]⟩ = true := rfl
theorem rt_perm {l r : Bool} {A B : List Int} (hl : B.length = A.length) (hm : ∀ x ∈ B, x ∈ A) (h : rightA ⟨l, r, A⟩ = true) : rightA ⟨l, r, B⟩ = true := by
  unfold rightA cntA at h ⊢
  dsimp only at h ⊢
  rw [hl]
  rw [Bool.and_eq_true] at h ⊢
  refine ⟨h.1, ?_⟩
  cases r
  · rfl
  · have h2 := h.2
    simp only [Bool.not_true, Bool.false_or, List.all_eq_true] at h2 ⊢
    exact fun x hx => h2 x (hm x hx)
theorem rt_sub {l r : Bool} {A B : List Int} (hl : B.length ≤ 200) (hm : ∀ x ∈ B, x ∈ A) (h : rightA ⟨l, r, A⟩ = true) : rightA ⟨true, r, B⟩ = true := by
  unfold rightA cntA at h ⊢
  dsimp only at h ⊢
  rw [Bool.and_eq_true] at h ⊢
  refine ⟨by simpa using hl, ?_⟩
  cases r
  · rfl
  · have h2 := h.2
    simp only [Bool.not_true, Bool.false_or, List.all_eq_true] at h2 ⊢
    exact fun x hx => h2 x (hm x hx)
theorem rt_len {a : Ary} (h : rightA a = true) : a.n.length ≤ 200 := by
  unfold rightA cntA at h
  cases hl : a.list
  · rw [hl] at h
    simp at h
    omega
  · rw [hl] at h
    simp at h
    omega
/-- What is no array. -/
theorem mon_no {g : ByteArray} {b : Ary} (h : rightA b = false) : smE g b = 114 ∧ smA g b = ⟨false, false, []⟩ := by
  have e : smE g b = 114 := by rw [smE, h]; rfl
  exact ⟨e, by rw [smA, e]; rfl⟩
theorem dy_no {g : ByteArray} {a b : Ary} (h : (rightA a && rightA b) = false) : sdE g a b = 114 ∧ sdA g a b = ⟨false, false, []⟩ := by
  have e : sdE g a b = 114 := by rw [sdE, h]; rfl
  exact ⟨e, by rw [sdA, e]; rfl⟩
theorem mon_ok {g : ByteArray} {b : Ary} {k : Nat} (hk : whichS g = k) (h : rightA b = true) (h0 : mkE1 k b = 0) : smE g b = 0 ∧ smA g b = mkA1 k b := by
  have e : smE g b = 0 := by rw [smE, h, if_pos rfl, hk, h0]
  exact ⟨e, by rw [smA, e, if_pos rfl, hk]⟩
theorem dy_ok {g : ByteArray} {a b : Ary} {k : Nat} (hk : whichS g = k) (ha : rightA a = true) (hb : rightA b = true) (h0 : mkE2 k a b = 0) : sdE g a b = 0 ∧ sdA g a b = mkA2 k a b := by
  have e : sdE g a b = 0 := by rw [sdE, ha, hb, hk]; exact h0
  exact ⟨e, by rw [sdA, e, if_pos rfl, hk]⟩
/-- Reversing. -/
theorem rev_ok {l r : Bool} {A : List Int} (h : rightA ⟨l, r, A⟩ = true) : smE ⟨#[226, 140, 189]⟩ ⟨l, r, A⟩ = 0 ∧ smA ⟨#[226, 140, 189]⟩ ⟨l, r, A⟩ = ⟨l, r, A.reverse⟩ := mon_ok wS_turn h rfl
theorem rt_rev {l r : Bool} {A : List Int} (h : rightA ⟨l, r, A⟩ = true) : rightA ⟨l, r, A.reverse⟩ = true := rt_perm (by simp) (fun x hx => List.mem_reverse.1 hx) h
/-- Turning round. -/
theorem turn_ok {l r : Bool} {A : List Int} (x : Int) (h : rightA ⟨l, r, A⟩ = true) : sdE ⟨#[226, 140, 189]⟩ ⟨false, false, [x]⟩ ⟨l, r, A⟩ = 0 ∧ sdA ⟨#[226, 140, 189]⟩ ⟨false, false, [x]⟩ ⟨l, r, A⟩ = ⟨l, r, rotL x A⟩ := dy_ok wS_turn (rt_one x) h rfl
theorem rt_rot {l r : Bool} {A : List Int} (x : Int) (h : rightA ⟨l, r, A⟩ = true) : rightA ⟨l, r, rotL x A⟩ = true := rt_perm (rotL_len x A) (fun _ hx => rotL_mem.1 hx) h
/-- Taking, dropping. -/
theorem take_ok {l r : Bool} {A : List Int} {m : Nat} (hm : m ≤ A.length) (h : rightA ⟨l, r, A⟩ = true) : sdE ⟨#[226, 134, 145]⟩ ⟨false, false, [(m : Int)]⟩ ⟨l, r, A⟩ = 0 ∧ sdA ⟨#[226, 134, 145]⟩ ⟨false, false, [(m : Int)]⟩ ⟨l, r, A⟩ = ⟨true, r, A.take m⟩ := by
  have h2 := rt_len h
  dsimp only at h2
  have := dy_ok (a := ⟨false, false, [(m : Int)]⟩) (b := ⟨l, r, A⟩) wS_take (rt_one _) h (by
    have h3 : ¬ ((m : Int) < -200 ∨ (200 : Int) < (m : Int)) := by omega
    simp [mkE2, numE, numV]
    omega)
  refine ⟨this.1, this.2.trans ?_⟩
  have e : takeL (m : Int) r A = A.take m := by
    unfold takeL
    rw [if_neg (by omega), tkL_pos _ (by omega), Int.toNat_natCast, show m - A.length = 0 by omega, List.replicate_zero, List.append_nil]
  show (⟨true, r, takeL (m : Int) r A⟩ : Ary) = _
  rw [e]
theorem drop_ok {l r : Bool} {A : List Int} {m : Nat} (h : rightA ⟨l, r, A⟩ = true) : sdE ⟨#[226, 134, 147]⟩ ⟨false, false, [(m : Int)]⟩ ⟨l, r, A⟩ = 0 ∧ sdA ⟨#[226, 134, 147]⟩ ⟨false, false, [(m : Int)]⟩ ⟨l, r, A⟩ = ⟨true, r, A.drop m⟩ := by
  have := dy_ok (a := ⟨false, false, [(m : Int)]⟩) (b := ⟨l, r, A⟩) wS_drop (rt_one _) h rfl
  refine ⟨this.1, this.2.trans ?_⟩
  show (⟨true, r, otL (m : Int) A⟩ : Ary) = _
  rw [otL_pos _ (by omega), Int.toNat_natCast]
theorem join_ok {r : Bool} {A B : List Int} (ha : rightA ⟨true, r, A⟩ = true) (hb : rightA ⟨true, r, B⟩ = true) (hl : A.length + B.length ≤ 200) : sdE ⟨#[44]⟩ ⟨true, r, A⟩ ⟨true, r, B⟩ = 0 ∧ sdA ⟨#[44]⟩ ⟨true, r, A⟩ ⟨true, r, B⟩ = ⟨true, r, A ++ B⟩ := by
  have := dy_ok (a := ⟨true, r, A⟩) (b := ⟨true, r, B⟩) wS_comma ha hb (by
    simp only [mkE2]
    rw [if_neg (by simp), if_neg (by omega)])
  refine ⟨this.1, this.2.trans ?_⟩
  show (⟨true, hasAny [⟨true, r, A⟩, ⟨true, r, B⟩], A ++ B⟩ : Ary) = _
  have e : hasAny [⟨true, r, A⟩, ⟨true, r, B⟩] = r := by cases r <;> simp [hasAny, hasR]
  rw [e]
theorem list_ok {l r : Bool} {A : List Int} (h : rightA ⟨l, r, A⟩ = true) : smE ⟨#[44]⟩ ⟨l, r, A⟩ = 0 ∧ smA ⟨#[44]⟩ ⟨l, r, A⟩ = ⟨true, r, A⟩ := mon_ok wS_comma h rfl
theorem count_ok {l r : Bool} {A : List Int} (h : rightA ⟨l, r, A⟩ = true) : smE ⟨#[226, 137, 162]⟩ ⟨l, r, A⟩ = 0 ∧ smA ⟨#[226, 137, 162]⟩ ⟨l, r, A⟩ = ⟨false, false, [(A.length : Int)]⟩ := mon_ok wS_count h rfl
theorem find_ok {r s m : Bool} {A B : List Int} (ha : rightA ⟨true, r, A⟩ = true) (hb : rightA ⟨m, s, B⟩ = true) : sdE ⟨#[226, 141, 179]⟩ ⟨true, r, A⟩ ⟨m, s, B⟩ = 0 ∧ sdA ⟨#[226, 141, 179]⟩ ⟨true, r, A⟩ ⟨m, s, B⟩ = ⟨m, false, idxL ⟨true, r, A⟩ ⟨m, s, B⟩⟩ := dy_ok wS_iota ha hb rfl
theorem inL_sub {A B : List Int} (h : InL A) (hm : ∀ x ∈ B, x ∈ A) : InL B := fun x hx => h x (hm x hx)
end Go.Proofs.YteclpoooggcdoaaGreatDoor.Ar
