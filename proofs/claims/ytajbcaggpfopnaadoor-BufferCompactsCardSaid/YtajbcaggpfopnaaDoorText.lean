/- A buffer's text out of its pieces: plain facts. -/
import Derived.Test.YtajbcaggpfopnaaDoorRead
import Derived.Test.YtajbcaggpfopnaaDoorJoin
import Derived.Test.YtajbcaggpfopnaaDoorSplit
namespace Go.Proofs.YtajbcaggpfopnaaDoor
open Go Go.RowKit

/-- Piece j of a list. -/
def sj (xs : List ByteArray) (j : Nat) : ByteArray := (xs[j]?).getD ⟨#[]⟩
/-- The bytes of some pieces. -/
def text (xs : List ByteArray) : List UInt8 := (xs.map fun x => x.data.toList).flatten
theorem text_nil : text [] = [] := rfl
theorem text_append (a b : List ByteArray) : text (a ++ b) = text a ++ text b := by simp [text]
theorem text_single (a : ByteArray) : text [a] = a.data.toList := by simp [text]
theorem text_cons (a : ByteArray) (b : List ByteArray) : text (a :: b) = a.data.toList ++ text b := by simp [text]
theorem sj_get (xs : List ByteArray) (j : Nat) (h : j < xs.length) : sj xs j = xs[j] := by simp [sj, h]

theorem txt_take (xs : List ByteArray) : ∀ k, k ≤ xs.length → txt (sj xs) k = text (xs.take k)
  | 0, _ => rfl
  | k + 1, h => by
    rw [txt, txt_take xs k (by omega), List.take_succ_eq_append_getElem (by omega), text_append, text_single, sj_get xs k (by omega)]
theorem txt_all (xs : List ByteArray) : txt (sj xs) xs.length = text xs := by rw [txt_take xs _ (Nat.le_refl _), List.take_length]
theorem offs_all (xs : List ByteArray) : offs (sj xs) xs.length = (text xs).length := by rw [← txt_length, txt_all]
theorem offs_take (xs : List ByteArray) (k : Nat) (h : k ≤ xs.length) : offs (sj xs) k = (text (xs.take k)).length := by rw [← txt_length, txt_take xs k h]

/-- No piece is empty. -/
def Full (xs : List ByteArray) : Prop := ∀ x ∈ xs, x.size ≠ 0
theorem Full.append {a b : List ByteArray} (ha : Full a) (hb : Full b) : Full (a ++ b) := fun x hx => (List.mem_append.1 hx).elim (ha x) (hb x)
theorem Full.take {a : List ByteArray} (ha : Full a) (k : Nat) : Full (a.take k) := fun x hx => ha x (List.mem_of_mem_take hx)
theorem Full.drop {a : List ByteArray} (ha : Full a) (k : Nat) : Full (a.drop k) := fun x hx => ha x (List.mem_of_mem_drop hx)
theorem Full.len {xs : List ByteArray} (h : Full xs) : xs.length ≤ (text xs).length := by
  induction xs with
  | nil => exact Nat.le_refl _
  | cons x xs ih =>
    have := ih (fun y hy => h y (List.mem_cons_of_mem _ hy))
    have hx := h x (by simp)
    rw [Lib.size_eq] at hx
    rw [text_cons, List.length_append, List.length_cons]
    omega

theorem keep_full (S : Nat → ByteArray) : ∀ k, Full (keep S k)
  | 0 => fun _ hx => by cases hx
  | k + 1 => by
    unfold keep
    split
    · exact keep_full S k
    · rename_i h
      exact (keep_full S k).append (fun x hx => by rw [List.mem_singleton] at hx; rw [hx]; exact h)
theorem text_keep (S : Nat → ByteArray) : ∀ k, text (keep S k) = txt S k
  | 0 => rfl
  | k + 1 => by
    unfold keep
    split
    · rename_i h
      have he : (S k).data.toList = [] := List.eq_nil_of_length_eq_zero (by rw [← Lib.size_eq]; exact h)
      rw [txt, he, List.append_nil]; exact text_keep S k
    · rw [text_append, text_keep S k, text_single]; rfl
theorem keep_take (xs : List ByteArray) (h : Full xs) : ∀ k, k ≤ xs.length → keep (sj xs) k = xs.take k
  | 0, _ => by simp [keep]
  | k + 1, hk => by
    have hx : (sj xs k).size ≠ 0 := by rw [sj_get xs k (by omega)]; exact h _ (List.getElem_mem _)
    unfold keep
    rw [if_neg hx, keep_take xs h k (by omega), List.take_succ_eq_append_getElem (by omega), sj_get xs k (by omega)]
theorem keep_congr {S S' : Nat → ByteArray} : ∀ k, (∀ j, j < k → S j = S' j) → keep S k = keep S' k
  | 0, _ => rfl
  | k + 1, h => by
    unfold keep
    rw [keep_congr k (fun j hj => h j (by omega)), h k (by omega)]
theorem keep_drop (xs : List ByteArray) (h : Full xs) (k : Nat) : keep (fun j => sj xs (k + j)) (xs.length - k) = xs.drop k := by
  have h1 := keep_take (xs.drop k) (h.drop k) (xs.length - k) (by rw [List.length_drop]; exact Nat.le_refl _)
  rw [List.take_of_length_le (by rw [List.length_drop]; exact Nat.le_refl _)] at h1
  rw [← h1]
  refine keep_congr _ (fun j hj => ?_)
  simp [sj, List.getElem?_drop]

/-- Where a place parts the pieces, by their bytes. -/
theorem parts_head {xs : List ByteArray} {at_ k wi : Nat} {l r : ByteArray} (h : Parts (sj xs) at_ k wi l r) (hk : k + wi ≤ xs.length) : text (xs.take k) ++ l.data.toList = (text xs).take at_ := by
  rcases h with ⟨rfl, h1, rfl, rfl⟩ | ⟨rfl, h1, h2, rfl, rfl⟩
  · rw [offs_take xs k (by omega)] at h1
    obtain ⟨t, ht⟩ : ∃ t, text xs = text (xs.take k) ++ t := ⟨text (xs.drop k), by rw [← text_append, List.take_append_drop]⟩
    rw [ht, ← h1]; simp
  · rw [offs_take xs k (by omega)] at h1 h2 ⊢
    have hkl : k < xs.length := by omega
    have e : text xs = text (xs.take k) ++ ((sj xs k).data.toList ++ text (xs.drop (k + 1))) := by
      rw [sj_get xs k hkl, ← text_cons, ← text_append, List.getElem_cons_drop, List.take_append_drop]
    rw [e, List.take_append, List.take_append, Lib.extract_data, List.drop_zero, Nat.sub_zero]
    rw [Lib.size_eq] at h2
    rw [List.take_of_length_le (Nat.le_of_lt h1), Nat.sub_eq_zero_of_le (show at_ - (text (xs.take k)).length ≤ (sj xs k).data.toList.length by omega), List.take_zero, List.append_nil]
theorem parts_tail {xs : List ByteArray} {at_ k wi : Nat} {l r : ByteArray} (h : Parts (sj xs) at_ k wi l r) (hk : k + wi ≤ xs.length) : r.data.toList ++ text (xs.drop (k + wi)) = (text xs).drop at_ := by
  rcases h with ⟨rfl, h1, rfl, rfl⟩ | ⟨rfl, h1, h2, rfl, rfl⟩
  · rw [offs_take xs k (by omega)] at h1
    have e : text xs = text (xs.take k) ++ text (xs.drop k) := by rw [← text_append, List.take_append_drop]
    rw [e, ← h1]; simp
  · rw [offs_take xs k (by omega)] at h1 h2 ⊢
    have hkl : k < xs.length := by omega
    have e : text xs = text (xs.take k) ++ ((sj xs k).data.toList ++ text (xs.drop (k + 1))) := by
      rw [sj_get xs k hkl, ← text_cons, ← text_append, List.getElem_cons_drop, List.take_append_drop]
    rw [e, List.drop_append, List.drop_append, Lib.extract_data]
    rw [Lib.size_eq] at h2 ⊢
    rw [List.drop_of_length_le (Nat.le_of_lt h1), List.nil_append, Nat.sub_eq_zero_of_le (show at_ - (text (xs.take k)).length ≤ (sj xs k).data.toList.length by omega), List.drop_zero]
    rw [List.take_of_length_le (by rw [List.length_drop]; exact Nat.le_refl _)]
/-- A later place parts them later. -/
theorem parts_le {xs : List ByteArray} (hf : Full xs) {a b k k' wi wi' : Nat} {l r l' r' : ByteArray} (h : Parts (sj xs) a k wi l r) (h' : Parts (sj xs) b k' wi' l' r') (hk : k + wi ≤ xs.length) (hab : a ≤ b) : k ≤ k' := by
  apply Classical.byContradiction
  intro hn
  have hm := offs_mono (sj xs) (show k' + 1 ≤ k by omega)
  rw [offs_succ] at hm
  have hs : (sj xs k').size ≠ 0 := by rw [sj_get xs k' (by omega)]; exact hf _ (List.getElem_mem _)
  rcases h with ⟨_, h1, _⟩ | ⟨_, h1, _⟩ <;> rcases h' with ⟨_, h2, _⟩ | ⟨_, h2, h3, _⟩ <;> omega

/-- The pieces behind a splice. -/
def spliced (xs : List ByteArray) (k : Nat) (l s r : ByteArray) (k' : Nat) : List ByteArray := xs.take k ++ keep (sj [l, s, r]) 3 ++ xs.drop k'
theorem spliced_full {xs : List ByteArray} (hf : Full xs) (k : Nat) (l s r : ByteArray) (k' : Nat) : Full (spliced xs k l s r k') := ((hf.take k).append (keep_full _ _)).append (hf.drop k')
theorem spliced_text (xs : List ByteArray) (k : Nat) (l s r : ByteArray) (k' : Nat) : text (spliced xs k l s r k') = (text (xs.take k) ++ l.data.toList) ++ s.data.toList ++ (r.data.toList ++ text (xs.drop k')) := by
  unfold spliced
  rw [text_append, text_append, text_keep]
  simp [txt, sj, List.append_assoc]
theorem spliced_len {xs : List ByteArray} (hf : Full xs) {a b k k' wi wi' : Nat} {l r l' r' s : ByteArray} (h : Parts (sj xs) a k wi l r) (h' : Parts (sj xs) b k' wi' l' r') (hk : k + wi ≤ xs.length) (hk' : k' + wi' ≤ xs.length) (hab : a ≤ b) :
    (spliced xs k l s r' (k' + wi')).length ≤ xs.length + 2 := by
  have hle := parts_le hf h h' hk hab
  have w0 : wi = 0 ∨ wi = 1 := by rcases h with ⟨e, _⟩ | ⟨e, _⟩ <;> omega
  unfold spliced
  rw [List.length_append, List.length_append, List.length_take, List.length_drop]
  have h3 : (keep (sj [l, s, r']) 3).length ≤ wi + 1 + wi' := by
    have e0 : sj [l, s, r'] 0 = l := rfl
    have e1 : sj [l, s, r'] 1 = s := rfl
    have e2 : sj [l, s, r'] 2 = r' := rfl
    have z1 : wi = 0 → l.size = 0 := fun e => by
      rcases h with ⟨_, _, rfl, _⟩ | ⟨e', _⟩
      · rfl
      · omega
    have z2 : wi' = 0 → r'.size = 0 := fun e => by
      rcases h' with ⟨_, _, _, rfl⟩ | ⟨e', _⟩
      · rfl
      · omega
    have w1 : wi = 0 ∨ wi = 1 := by rcases h with ⟨e, _⟩ | ⟨e, _⟩ <;> omega
    have w2 : wi' = 0 ∨ wi' = 1 := by rcases h' with ⟨e, _⟩ | ⟨e, _⟩ <;> omega
    simp only [keep, e0, e1, e2]
    rcases w1 with rfl | rfl <;> rcases w2 with rfl | rfl
    · rw [if_pos (z2 rfl), if_pos (z1 rfl)]; split <;> simp
    · rw [if_pos (z1 rfl)]; split <;> split <;> simp
    · rw [if_pos (z2 rfl)]; split <;> split <;> simp
    · split <;> split <;> split <;> simp
  omega
end Go.Proofs.YtajbcaggpfopnaaDoor
