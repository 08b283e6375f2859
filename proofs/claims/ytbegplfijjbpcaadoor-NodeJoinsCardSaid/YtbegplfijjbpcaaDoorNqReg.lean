/- What check lays ahead of its loop, in whatever order: the forms, a list of truths, and a box of each. -/
import Derived.Test.YtbegplfijjbpcaaDoorNqForm
import Derived.Test.YtbegplfijjbpcaaDoorNqRep
import Derived.Test.YtbegplfijjbpcaaDoorNqA
namespace Go.Proofs.YtbegplfijjbpcaaDoor.No
open Go Go.RowKit Go.Shelf

theorem row_apart {W : World} {k p : Nat} {t u : TypeId} {cs ds : Array Value} (h : Row W k t cs) (h' : Row W p u ds) (hne : t ≠ u) : k ≠ p := fun e => by
  subst e
  have h2 := (show W.heap[k]? = _ from h).symm.trans (show W.heap[k]? = _ from h')
  injection h2 with h2
  injection h2 with _ h2
  exact hne h2
theorem FormsAt.apart {W : World} {m p : Nat} {u : TypeId} {ds : Array Value} (h : FormsAt W m) (h' : Row W p u ds) : m ≠ p := fun e => by
  subst e
  have h2 := (show W.heap[m]? = _ from h).symm.trans (show W.heap[m]? = _ from h')
  injection h2 with h2
  cases h2
theorem FormsAt.other {W : World} {m p i : Nat} (h : FormsAt W m) (hne : m ≠ p) (v : Value) : FormsAt (W.setCell ⟨p, i, none⟩ v) m := (Below.heap_setCell W ⟨p, i, none⟩ v m hne).trans h
/-- What each operation has told. -/
def FR (q B n : Nat) (a0 : Option Addr) (c0 : Nat) : Nat → (Nat → Value) → World → Prop
  | 0, v, W => ∃ m, v 0 = .map (some m) ∧ q ≤ m ∧ FormsAt W m
  | 1, v, W => ∃ s, v 1 = .slice (some ⟨s, 0, none⟩) 1 1 ∧ q ≤ s ∧ Row W s 4 #[.bool true]
  | 2, v, _ => v 2 = .pointer (some ⟨B, 0, none⟩)
  | 3, v, _ => v 3 = .slice a0 n c0
  | 4, v, _ => v 4 = .int .i64 n
  | 5, v, W => ∃ f, v 5 = .slice (some ⟨f, 0, none⟩) n n ∧ q ≤ f ∧ Row W f 4 (bools (List.replicate n true))
  | 6, v, W => ∃ p u, v 6 = .pointer (some ⟨p, 0, none⟩) ∧ q ≤ p ∧ Row W p 71 #[u]
  | 7, v, W => ∃ p u, v 7 = .pointer (some ⟨p, 0, none⟩) ∧ q ≤ p ∧ Row W p 73 #[u]
  | 8, v, W => ∃ p, v 6 = .pointer (some ⟨p, 0, none⟩) ∧ Row W p 71 #[v 0]
  | 9, v, W => ∃ p, v 7 = .pointer (some ⟨p, 0, none⟩) ∧ Row W p 73 #[v 5]
  | _, _, _ => True
theorem FR.below {q B n : Nat} {a0 : Option Addr} {c0 : Nat} {v : Nat → Value} {W W' : World} (hb : Below W.heap.size W W') : ∀ i, FR q B n a0 c0 i v W → FR q B n a0 c0 i v W'
  | 0, ⟨m, h1, h2, h3⟩ => ⟨m, h1, h2, h3.below hb⟩
  | 1, ⟨m, h1, h2, h3⟩ => ⟨m, h1, h2, h3.below hb h3.lt⟩
  | 2, h => h
  | 3, h => h
  | 4, h => h
  | 5, ⟨m, h1, h2, h3⟩ => ⟨m, h1, h2, h3.below hb h3.lt⟩
  | 6, ⟨m, u, h1, h2, h3⟩ => ⟨m, u, h1, h2, h3.below hb h3.lt⟩
  | 7, ⟨m, u, h1, h2, h3⟩ => ⟨m, u, h1, h2, h3.below hb h3.lt⟩
  | 8, ⟨m, h1, h2⟩ => ⟨m, h1, h2.below hb h2.lt⟩
  | 9, ⟨m, h1, h2⟩ => ⟨m, h1, h2.below hb h2.lt⟩
  | _ + 10, _ => trivial
/-- What holds when some operations are over. -/
structure JR (w1 : World) (B n : Nat) (a0 : Option Addr) (c0 : Nat) (l : Array Bool) (v : Nat → Value) (W : World) : Prop where
  below : Below w1.heap.size w1 W
  told : ∀ i, i < 10 → l.getD i false = true → FR w1.heap.size B n a0 c0 i v W
  z8 : l.getD 8 false = true → l.getD 0 false = true ∧ l.getD 6 false = true
  z9 : l.getD 9 false = true → l.getD 5 false = true ∧ l.getD 7 false = true
/-- A value that is not listed plays no part. -/
theorem FR.val {q B n : Nat} {a0 : Option Addr} {c0 : Nat} {v : Nat → Value} {W : World} {i : Nat} (x : Value) : ∀ j, j ≠ i → (j = 8 → i ≠ 0 ∧ i ≠ 6) → (j = 9 → i ≠ 5 ∧ i ≠ 7) → FR q B n a0 c0 j v W → FR q B n a0 c0 j (fun k => if k = i then x else v k) W := fun j hj h8 h9 h => by
  rcases Nat.lt_or_ge j 10 with hlt | hge
  · obtain rfl | rfl | rfl | rfl | rfl | rfl | rfl | rfl | rfl | rfl : j = 0 ∨ j = 1 ∨ j = 2 ∨ j = 3 ∨ j = 4 ∨ j = 5 ∨ j = 6 ∨ j = 7 ∨ j = 8 ∨ j = 9 := by omega
    all_goals simp only [FR] at h ⊢
    all_goals first
      | (simp only [if_neg hj]; exact h)
      | (simp only [if_neg (Ne.symm (h8 rfl).1), if_neg (Ne.symm (h8 rfl).2)]; exact h)
      | (simp only [if_neg (Ne.symm (h9 rfl).1), if_neg (Ne.symm (h9 rfl).2)]; exact h)
  · obtain ⟨k, rfl⟩ : ∃ k, j = k + 10 := ⟨j - 10, by omega⟩
    trivial
/-- One more is over. -/
theorem JR.put {w1 : World} {B n : Nat} {a0 : Option Addr} {c0 : Nat} {l : Array Bool} {v : Nat → Value} {W W' : World} (h : JR w1 B n a0 c0 l v W) (hs : l.size = 10) {i : Nat} (hi : i < 10) (hn : l.getD i false = false) (x : Value) (hb : Below w1.heap.size w1 W')
    (hk : ∀ j, j < 10 → j ≠ i → l.getD j false = true → FR w1.heap.size B n a0 c0 j v W')
    (hx : FR w1.heap.size B n a0 c0 i (fun k => if k = i then x else v k) W') (h8 : i = 8 → l.getD 0 false = true ∧ l.getD 6 false = true) (h9 : i = 9 → l.getD 5 false = true ∧ l.getD 7 false = true) : JR w1 B n a0 c0 (l.setIfInBounds i true) (fun k => if k = i then x else v k) W' := by
  have hl : ∀ j, (l.setIfInBounds i true).getD j false = if i = j then true else l.getD j false := fun j => lset hs hi
  have up : ∀ j, l.getD j false = true → (l.setIfInBounds i true).getD j false = true := fun j hj => by
    rw [hl j]
    split
    · rfl
    · exact hj
  refine ⟨hb, fun j hj hlj => ?_, fun hlj => ?_, fun hlj => ?_⟩
  · by_cases e : i = j
    · subst e
      exact hx
    · rw [hl j, if_neg e] at hlj
      refine FR.val x j (Ne.symm e) (fun e8 => ?_) (fun e9 => ?_) (hk j hj (Ne.symm e) hlj)
      · subst e8
        have := h.z8 hlj
        exact ⟨fun e0 => by subst e0; rw [hn] at this; exact absurd this.1 (by decide), fun e0 => by subst e0; rw [hn] at this; exact absurd this.2 (by decide)⟩
      · subst e9
        have := h.z9 hlj
        exact ⟨fun e0 => by subst e0; rw [hn] at this; exact absurd this.1 (by decide), fun e0 => by subst e0; rw [hn] at this; exact absurd this.2 (by decide)⟩
  · by_cases e : i = 8
    · exact ⟨up _ (h8 e).1, up _ (h8 e).2⟩
    · rw [hl 8, if_neg e] at hlj
      exact ⟨up _ (h.z8 hlj).1, up _ (h.z8 hlj).2⟩
  · by_cases e : i = 9
    · exact ⟨up _ (h9 e).1, up _ (h9 e).2⟩
    · rw [hl 9, if_neg e] at hlj
      exact ⟨up _ (h.z9 hlj).1, up _ (h.z9 hlj).2⟩
/-- One more is over, that has kept all that there was. -/
theorem JR.more {w1 : World} {B n : Nat} {a0 : Option Addr} {c0 : Nat} {l : Array Bool} {v : Nat → Value} {W W' : World} (h : JR w1 B n a0 c0 l v W) (hs : l.size = 10) {i : Nat} (hi : i < 8) (hn : l.getD i false = false) (x : Value) (hb : Below W.heap.size W W')
    (hx : FR w1.heap.size B n a0 c0 i (fun k => if k = i then x else v k) W') : JR w1 B n a0 c0 (l.setIfInBounds i true) (fun k => if k = i then x else v k) W' :=
  h.put hs (by omega) hn x (h.below.trans (hb.mono h.below.size)) (fun j hj _ hlj => (h.told j hj hlj).below hb) hx (fun e => by omega) (fun e => by omega)
/-- A box gets its value: what lies elsewhere, or is of another type, is kept. -/
theorem FR.set {q B n : Nat} {a0 : Option Addr} {c0 : Nat} {v : Nat → Value} {W : World} {p : Nat} {t : TypeId} {u x : Value} (hp : Row W p t #[u]) (h8 : t = 71 ∨ t = 73) : ∀ j, j < 8 → FR q B n a0 c0 j v W → FR q B n a0 c0 j v (W.setCell ⟨p, 0, none⟩ x)
  | 0, _, ⟨m, h1, h2, h3⟩ => ⟨m, h1, h2, h3.other (h3.apart hp) x⟩
  | 1, _, ⟨m, h1, h2, h3⟩ => ⟨m, h1, h2, h3.other (row_apart h3 hp (by rcases h8 with rfl | rfl <;> decide)) x⟩
  | 2, _, h => h
  | 3, _, h => h
  | 4, _, h => h
  | 5, _, ⟨m, h1, h2, h3⟩ => ⟨m, h1, h2, h3.other (row_apart h3 hp (by rcases h8 with rfl | rfl <;> decide)) x⟩
  | 6, _, ⟨m, y, h1, h2, h3⟩ => by
    by_cases e : m = p
    · subst e
      exact ⟨m, x, h1, h2, h3.set 0 x⟩
    · exact ⟨m, y, h1, h2, h3.other e x⟩
  | 7, _, ⟨m, y, h1, h2, h3⟩ => by
    by_cases e : m = p
    · subst e
      exact ⟨m, x, h1, h2, h3.set 0 x⟩
    · exact ⟨m, y, h1, h2, h3.other e x⟩
  | _ + 8, h, _ => by omega
theorem JR.set8 {w1 : World} {B n : Nat} {a0 : Option Addr} {c0 : Nat} {l : Array Bool} {v : Nat → Value} {W : World} (h : JR w1 B n a0 c0 l v W) (hs : l.size = 10) (hn : l.getD 8 false = false) (l0 : l.getD 0 false = true) (l6 : l.getD 6 false = true) : ∃ p m u, v 6 = .pointer (some ⟨p, 0, none⟩) ∧ v 0 = .map (some m) ∧ Row W p 71 #[u] ∧ JR w1 B n a0 c0 (l.setIfInBounds 8 true) (fun k => if k = 8 then undef else v k) (W.setCell ⟨p, 0, none⟩ (.map (some m))) := by
  obtain ⟨p, u, q1, q2, q3⟩ := h.told 6 (by omega) l6
  obtain ⟨m, r1, r2, r3⟩ := h.told 0 (by omega) l0
  refine ⟨p, m, u, q1, r1, q3, h.put hs (by omega) hn undef (h.below.setCell q2 _) (fun j hj hj8 hlj => ?_) ⟨p, q1, ?_⟩ (fun _ => ⟨l0, l6⟩) (fun e => by omega)⟩
  · by_cases e : j = 9
    · subst e
      obtain ⟨p', s1, s2⟩ := h.told 9 hj hlj
      exact ⟨p', s1, s2.other (row_apart s2 q3 (by decide)) _⟩
    · exact FR.set q3 (.inl rfl) j (by omega) (h.told j hj hlj)
  · have := q3.set 0 (.map (some m))
    show Row _ p _ #[if (0 : Nat) = 8 then undef else v 0]
    rw [if_neg (by omega), r1]
    exact this
theorem JR.set9 {w1 : World} {B n : Nat} {a0 : Option Addr} {c0 : Nat} {l : Array Bool} {v : Nat → Value} {W : World} (h : JR w1 B n a0 c0 l v W) (hs : l.size = 10) (hn : l.getD 9 false = false) (l5 : l.getD 5 false = true) (l7 : l.getD 7 false = true) : ∃ p f u, v 7 = .pointer (some ⟨p, 0, none⟩) ∧ v 5 = .slice (some ⟨f, 0, none⟩) n n ∧ Row W p 73 #[u] ∧ JR w1 B n a0 c0 (l.setIfInBounds 9 true) (fun k => if k = 9 then undef else v k) (W.setCell ⟨p, 0, none⟩ (.slice (some ⟨f, 0, none⟩) n n)) := by
  obtain ⟨p, u, q1, q2, q3⟩ := h.told 7 (by omega) l7
  obtain ⟨m, r1, r2, r3⟩ := h.told 5 (by omega) l5
  refine ⟨p, m, u, q1, r1, q3, h.put hs (by omega) hn undef (h.below.setCell q2 _) (fun j hj hj8 hlj => ?_) ⟨p, q1, ?_⟩ (fun e => by omega) (fun _ => ⟨l5, l7⟩)⟩
  · by_cases e : j = 8
    · subst e
      obtain ⟨p', s1, s2⟩ := h.told 8 hj hlj
      exact ⟨p', s1, s2.other (row_apart s2 q3 (by decide)) _⟩
    · exact FR.set q3 (.inr rfl) j (by omega) (h.told j hj hlj)
  · have := q3.set 0 (.slice (some ⟨m, 0, none⟩) n n)
    show Row _ p _ #[if (5 : Nat) = 9 then undef else v 5]
    rw [if_neg (by omega), r1]
    exact this
/-- All are over. -/
theorem JR.done {w1 : World} {B n : Nat} {a0 : Option Addr} {c0 : Nat} {l : Array Bool} {v : Nat → Value} {W : World} (h : JR w1 B n a0 c0 l v W) (hl : ∀ i, i < 10 → l.getD i false = true) :
    ∃ m s f p p', v 0 = .map (some m) ∧ v 1 = .slice (some ⟨s, 0, none⟩) 1 1 ∧ v 2 = .pointer (some ⟨B, 0, none⟩) ∧ v 3 = .slice a0 n c0 ∧ v 4 = .int .i64 n ∧ v 5 = .slice (some ⟨f, 0, none⟩) n n ∧ v 6 = .pointer (some ⟨p, 0, none⟩) ∧ v 7 = .pointer (some ⟨p', 0, none⟩) ∧
      w1.heap.size ≤ m ∧ w1.heap.size ≤ f ∧ w1.heap.size ≤ p ∧ w1.heap.size ≤ p' ∧ FormsAt W m ∧ Row W f 4 (bools (List.replicate n true)) ∧ Row W p 71 #[.map (some m)] ∧ Row W p' 73 #[.slice (some ⟨f, 0, none⟩) n n] := by
  obtain ⟨m, r1, r2, r3⟩ := h.told 0 (by omega) (hl 0 (by omega))
  obtain ⟨s, s1, _, _⟩ := h.told 1 (by omega) (hl 1 (by omega))
  have t2 := h.told 2 (by omega) (hl 2 (by omega))
  have t3 := h.told 3 (by omega) (hl 3 (by omega))
  have t4 := h.told 4 (by omega) (hl 4 (by omega))
  obtain ⟨f, f1, f2, f3⟩ := h.told 5 (by omega) (hl 5 (by omega))
  obtain ⟨p, u, p1, p2, _⟩ := h.told 6 (by omega) (hl 6 (by omega))
  obtain ⟨p', u', p3, p4, _⟩ := h.told 7 (by omega) (hl 7 (by omega))
  obtain ⟨x, x1, x2⟩ := h.told 8 (by omega) (hl 8 (by omega))
  obtain ⟨y, y1, y2⟩ := h.told 9 (by omega) (hl 9 (by omega))
  rw [p1] at x1
  rw [p3] at y1
  cases x1
  cases y1
  rw [r1] at x2
  rw [f1] at y2
  exact ⟨m, s, f, p, p', r1, s1, t2, t3, t4, f1, p1, p3, r2, f2, p2, p4, r3, f3, x2, y2⟩
end Go.Proofs.YtbegplfijjbpcaaDoor.No
