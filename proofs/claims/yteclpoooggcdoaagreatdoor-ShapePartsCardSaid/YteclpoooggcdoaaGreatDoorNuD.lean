/- Merged by gen/ar_merge.py: NuFind, NuWhich, NuApply, NuDy, NuShown. -/
import Derived.Test.YteclpoooggcdoaaGreatDoorNuB
import Derived.Test.YteclpoooggcdoaaGreatDoorNuC
/- Number's finders: the function of a glyph, in maps (by wip/gen/mknufind.py). -/
namespace Go.Proofs.YteclpoooggcdoaaGreatDoor.Nu
open Go Go.RowKit Go.Shelf
attribute [local go_sem] Oper.semAt_some

def fvOf (r : Option (Nat × Value)) : Value := match r with
  | some x => x.2
  | none => .nilFunc
def okOf (r : Option (Nat × Value)) : Bool := match r with
  | some _ => true
  | none => false
theorem ansF_eq (r : Option (Nat × Value)) : ansF r = .tuple #[fvOf r, .bool (okOf r)] := by cases r <;> rfl
end Go.Proofs.YteclpoooggcdoaaGreatDoor.Nu
/- Which function a glyph has (by wip/gen/mknudy.py). -/
namespace Go.Proofs.YteclpoooggcdoaaGreatDoor.Nu
open Go Go.RowKit Go.Shelf
attribute [local go_sem] Oper.semAt_some

theorem whichD_at {k : Nat} (h : k < 15) : whichD (dyG k) = k := by
  rcases (by omega : k = 0 ∨ k = 1 ∨ k = 2 ∨ k = 3 ∨ k = 4 ∨ k = 5 ∨ k = 6 ∨ k = 7 ∨ k = 8 ∨ k = 9 ∨ k = 10 ∨ k = 11 ∨ k = 12 ∨ k = 13 ∨ k = 14) with rfl | rfl | rfl | rfl | rfl | rfl | rfl | rfl | rfl | rfl | rfl | rfl | rfl | rfl | rfl <;> rfl
theorem whichM_at {k : Nat} (h : k < 8) : whichM (monG k) = k := by
  rcases (by omega : k = 0 ∨ k = 1 ∨ k = 2 ∨ k = 3 ∨ k = 4 ∨ k = 5 ∨ k = 6 ∨ k = 7) with rfl | rfl | rfl | rfl | rfl | rfl | rfl | rfl <;> rfl
theorem which_no (G : Nat → ByteArray) (g : ByteArray) : ∀ n i, (∀ k, i ≤ k → k < i + n → g ≠ G k) → whichG G g n i = i + n
  | 0, _, _ => rfl
  | n + 1, i, h => by
    simp only [whichG]
    rw [if_neg (h i (Nat.le_refl _) (by omega)), which_no G g n (i + 1) (fun k h0 h1 => h k (by omega) (by omega))]
    omega
theorem whichD_no {g : ByteArray} (h : ∀ k, k < 15 → g ≠ dyG k) : whichD g = 15 := by unfold whichD; rw [which_no dyG g 15 0 (fun k _ hk => h k (by omega))]
theorem whichM_no {g : ByteArray} (h : ∀ k, k < 8 → g ≠ monG k) : whichM g = 8 := by unfold whichM; rw [which_no monG g 8 0 (fun k _ hk => h k (by omega))]
end Go.Proofs.YteclpoooggcdoaaGreatDoor.Nu
/- Number's calls (by wip/gen/mknudy.py). -/
namespace Go.Proofs.YteclpoooggcdoaaGreatDoor.Nu
open Go Go.RowKit Go.Shelf
attribute [local go_sem] Oper.semAt_some

end Go.Proofs.YteclpoooggcdoaaGreatDoor.Nu
/- Number's exported calls (by wip/gen/mknucall.py). -/
namespace Go.Proofs.YteclpoooggcdoaaGreatDoor.Nu
open Go Go.RowKit Go.Shelf
attribute [local go_sem] Oper.semAt_some

/-- The ground: number's sentinel, and the type of errors, lie. -/
def NG (w : World) : Prop := True ∧ ErrT w
theorem NG.below {w w' : World} (h : NG w) (hb : Below w.heap.size w w') : NG w' := ⟨trivial, h.2.below hb h.2.2⟩
/-- The pair that a call answers. -/
abbrev numV (N : Int × Int) : Value := .tuple #[.int .i64 N.1, .int .i64 N.2]
theorem dyN_no (x y : Int) : dyN 15 x y = (0, 102) := rfl
theorem whichG_le (G : Nat → ByteArray) (g : ByteArray) : ∀ n i, whichG G g n i ≤ i + n
  | 0, _ => Nat.le_refl _
  | n + 1, i => by
    simp only [whichG]
    split
    · omega
    · have := whichG_le G g n (i + 1)
      omega
theorem dy_find (g : ByteArray) (x y : Int) : (if decide (whichD g < 15) then dyN (whichD g) x y else (0, 102)) = dyN (whichD g) x y := by
  by_cases h : whichD g < 15
  · rw [decide_eq_true h]; rfl
  · have := whichG_le dyG g 15 0
    have h2 : whichD g = 15 := by unfold whichD at h ⊢; omega
    rw [h2]
    rfl
theorem mon_find (g : ByteArray) (y : Int) : (if decide (whichM g < 8) then monN (whichM g) y else (0, 102)) = monN (whichM g) y := by
  by_cases h : whichM g < 8
  · rw [decide_eq_true h]; rfl
  · have := whichG_le monG g 8 0
    have h2 : whichM g = 8 := by unfold whichM at h ⊢; omega
    rw [h2]
    rfl
theorem which_is (G : Nat → ByteArray) (g : ByteArray) : ∀ n i k, whichG G g n i = k → k < i + n → g = G k
  | 0, i, k, h, hk => by simp only [whichG] at h; omega
  | n + 1, i, k, h, hk => by
    simp only [whichG] at h
    split at h
    · rename_i e
      rw [← h]
      exact e
    · exact which_is G g n (i + 1) k h (by omega)
/-- What changes nothing. -/
def unitN (k : Nat) : Int × Bool := match k with
  | 0 => (0, true)
  | 2 => (1, true)
  | 13 => (1, true)
  | 14 => (0, true)
  | _ => (0, false)
theorem str_eq {g : ByteArray} {l : List UInt8} (h : g = ⟨l.toArray⟩) : (g.toList == l) = true := by subst h; simp [ByteArray.toList_eq]
theorem str_ne {g : ByteArray} {l : List UInt8} (h : g ≠ ⟨l.toArray⟩) : (g.toList == l) = false := by
  rw [ByteArray.toList_eq, Bool.eq_false_iff]
  intro e
  have e := eq_of_beq e
  exact h (by cases g; simp at e; simp [← e])
end Go.Proofs.YteclpoooggcdoaaGreatDoor.Nu
/- What the laws begin with: shown; calls at given numbers (by wip/gen/mknulaws.py). -/
namespace Go.Proofs.YteclpoooggcdoaaGreatDoor.Nu
open Go Go.RowKit Go.Shelf
attribute [local go_sem] Oper.semAt_some

theorem ovr_in (n : Int) : In (ovr n).1 := by unfold ovr; split <;> omega
theorem divR_in (x y : Int) : In (divR x y).1 := by
  unfold divR
  split
  · split <;> decide
  · split
    · exact ovr_in _
    · decide
theorem bitsR_in (x y n : Int) (hn : In n) : In (bitsR x y n).1 := by
  unfold bitsR
  split
  · exact hn
  · decide
theorem bit_in (b : Bool) : In (bit b) := by cases b <;> decide
theorem fmod_in (x y : Int) (hx : x ≠ 0) (h : In x) : In (y.fmod x) := by
  rcases Int.lt_or_lt_of_ne hx with hn | hp
  · have h1 := Int.fmod_nonneg_of_pos (-y) (show 0 < -x by omega)
    have h2 := Int.fmod_lt_of_pos (-y) (show 0 < -x by omega)
    rw [Int.neg_fmod_neg] at h1 h2
    omega
  · have h1 := Int.fmod_nonneg_of_pos y hp
    have h2 := Int.fmod_lt_of_pos y hp
    omega
theorem resR_in (x y : Int) (hx : In x) (hy : In y) : In (resR x y) := by
  unfold resR
  split
  · exact hy
  · rename_i h
    exact fmod_in x y h hx
theorem dyN_in (k : Nat) (x y : Int) (hx : In x) (hy : In y) : In (dyN k x y).1 := by
  match k with
  | 0 => exact ovr_in _
  | 1 => exact ovr_in _
  | 2 => exact ovr_in _
  | 3 => exact divR_in x y
  | 4 => show In (max x y); omega
  | 5 => show In (min x y); omega
  | 6 => exact resR_in x y hx hy
  | 7 | 8 | 9 | 10 | 11 | 12 => exact bit_in _
  | 13 => exact bitsR_in x y _ (by omega)
  | 14 => exact bitsR_in x y _ (by omega)
  | n + 15 => show In 0; decide
theorem monN_in (k : Nat) (y : Int) (hy : In y) : In (monN k y).1 := by
  match k with
  | 0 | 4 | 5 => exact hy
  | 1 | 6 => exact ovr_in _
  | 2 =>
    show In y.sign
    rcases Int.lt_trichotomy y 0 with h | h | h
    · rw [Int.sign_eq_neg_one_of_neg h]; decide
    · rw [h]; decide
    · rw [Int.sign_eq_one_of_pos h]; decide
  | 3 => exact divR_in 1 y
  | 7 =>
    show In (notR y).1
    unfold notR
    split
    · rename_i h
      rcases isB_cases h with rfl | rfl <;> decide
    · decide
  | n + 8 => show In 0; decide
end Go.Proofs.YteclpoooggcdoaaGreatDoor.Nu
