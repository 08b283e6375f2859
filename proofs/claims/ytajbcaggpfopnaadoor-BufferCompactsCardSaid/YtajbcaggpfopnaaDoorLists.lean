/- What splices make of a text: plain facts. -/
import Derived.Test.YtajbcaggpfopnaaDoorShown
namespace Go.Proofs.YtajbcaggpfopnaaDoor
open Go Go.RowKit

theorem bytes_eq {l : List UInt8} {s : ByteArray} (h : l = s.data.toList) : (⟨l.toArray⟩ : ByteArray) = s := by
  subst h; rfl
theorem ok_nat {L : Nat} {a m : Int} (h : okSpan L a m = true) : ∃ A M : Nat, a = (A : Int) ∧ m = (M : Int) ∧ A + M ≤ L := by
  unfold okSpan at h
  obtain ⟨h1, h2, h3, h4⟩ := of_decide_eq_true h
  obtain ⟨A, rfl⟩ := Int.eq_ofNat_of_zero_le h1
  obtain ⟨M, rfl⟩ := Int.eq_ofNat_of_zero_le h3
  exact ⟨A, M, rfl, rfl, by omega⟩
theorem ok_of {L A M : Nat} (h : A + M ≤ L) : okSpan L (A : Int) (M : Int) = true := by
  unfold okSpan
  exact decide_eq_true ⟨by omega, by omega, by omega, by omega⟩
theorem spE_nat {L : Nat} {a m : Int} {sz : Nat} (h : spE L a m sz = 0) : ∃ A M : Nat, a = (A : Int) ∧ m = (M : Int) ∧ A + M ≤ L ∧ L - M + sz ≤ 4000 := by
  unfold spE at h
  split at h
  · rename_i hok
    obtain ⟨A, M, rfl, rfl, hAM⟩ := ok_nat hok
    split at h
    · rename_i hf
      exact ⟨A, M, rfl, rfl, hAM, by omega⟩
    · omega
  · omega
theorem spE_of {L A M sz : Nat} (h : A + M ≤ L) (hf : L - M + sz ≤ 4000) : spE L (A : Int) (M : Int) sz = 0 := by
  unfold spE
  rw [if_pos (ok_of h), if_pos (by omega)]
theorem spE_or {L : Nat} {a m : Int} {sz : Nat} (h : spE L a m sz ≠ 0) : (spE L a m sz = 10 ∧ okSpan L a m = false) ∨ (spE L a m sz = 11 ∧ okSpan L a m = true) := by
  unfold spE at h ⊢
  cases hok : okSpan L a m with
  | false => exact .inl ⟨by rw [if_neg (by simp)], rfl⟩
  | true =>
    rw [hok, if_pos rfl] at h
    rw [if_pos rfl]
    split at h
    · exact absurd rfl h
    · rename_i hf
      exact .inr ⟨by rw [if_neg hf], rfl⟩
theorem spT_of {T : List UInt8} {A M : Nat} {X : List UInt8} (h : A + M ≤ T.length) (hf : T.length - M + X.length ≤ 4000) : spT T (A : Int) (M : Int) X = T.take A ++ X ++ T.drop (A + M) := by
  unfold spT
  rw [if_pos (spE_of h hf)]
  rfl
theorem spT_ne {T : List UInt8} {a m : Int} {X : List UInt8} (h : spE T.length a m X.length ≠ 0) : spT T a m X = T := by
  unfold spT
  rw [if_neg h]
theorem rdT_of {T : List UInt8} {A M : Nat} (h : A + M ≤ T.length) : rdT T (A : Int) (M : Int) = (T.drop A).take M := by
  unfold rdT
  rw [if_pos (ok_of h)]
  rfl
theorem rdE_of {L A M : Nat} (h : A + M ≤ L) : rdE L (A : Int) (M : Int) = 0 := by
  unfold rdE
  rw [if_pos (ok_of h)]
/-- A splice taken back. -/
theorem back_text {T X : List UInt8} {A M : Nat} (h : A + M ≤ T.length) : ((T.take A ++ X ++ T.drop (A + M)).drop A).take X.length = X := by
  have h1 : (T.take A).length = A := by rw [List.length_take]; omega
  rw [List.append_assoc, List.drop_append, h1, Nat.sub_self, List.drop_zero, List.drop_of_length_le (Nat.le_of_eq h1), List.nil_append, List.take_append, Nat.sub_self, List.take_zero, List.append_nil, List.take_length]
theorem back_whole {T X : List UInt8} {A M : Nat} (h : A + M ≤ T.length) : (T.take A ++ X ++ T.drop (A + M)).take A ++ (T.drop A).take M ++ (T.take A ++ X ++ T.drop (A + M)).drop (A + X.length) = T := by
  have h1 : (T.take A).length = A := by rw [List.length_take]; omega
  have h2 : (T.take A ++ X).length = A + X.length := by rw [List.length_append, h1]
  have e1 : (T.take A ++ X ++ T.drop (A + M)).take A = T.take A := by
    rw [List.append_assoc, List.take_append, h1, Nat.sub_self, List.take_zero, List.append_nil, List.take_take, Nat.min_self]
  have e2 : (T.take A ++ X ++ T.drop (A + M)).drop (A + X.length) = T.drop (A + M) := by
    rw [List.drop_append, h2, Nat.sub_self, List.drop_zero, List.drop_of_length_le (Nat.le_of_eq h2), List.nil_append]
  rw [e1, e2, List.append_assoc, ← List.drop_drop, List.take_append_drop, List.take_append_drop]
theorem mid_len {T X : List UInt8} {A M : Nat} (h : A + M ≤ T.length) : (T.take A ++ X ++ T.drop (A + M)).length = T.length - M + X.length := by
  rw [List.length_append, List.length_append, List.length_take, List.length_drop]
  omega
end Go.Proofs.YtajbcaggpfopnaaDoor
