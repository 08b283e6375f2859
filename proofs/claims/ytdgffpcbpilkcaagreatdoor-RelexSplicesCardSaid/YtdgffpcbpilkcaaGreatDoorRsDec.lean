/- What the library takes for a rune is what the plain answer does (by wip/gen/rs_dec.py). -/
import Derived.Test.YtdgffpcbpilkcaaGreatDoorShelf
import Derived.Test.YtdgffpcbpilkcaaGreatDoorRsFirst
import Derived.Test.YtdgffpcbpilkcaaGreatDoorLxOther
namespace Go.Proofs.YtdgffpcbpilkcaaGreatDoor
namespace Rs.Rp
open Go Go.RowKit
theorem get_lt (s : ByteArray) (k : Nat) (h : k < s.size) : s.get! k = s[k]'h := by
  unfold ByteArray.get!
  exact getElem!_pos s.data k h
theorem fold_one {T : List UInt8} {v : Int} {b1 : UInt8} (e1 : T[1]? = some b1) (d1 : ¬ (b1.toNat < 128 ∨ 191 < b1.toNat)) : foldK T v (2 - 1) = some (64 * v + (b1.toNat : Int) - 128) := by
  show foldK T v (0 + 1) = _
  simp only [foldK, e1, if_neg d1]
theorem fold_bad {T : List UInt8} {v : Int} {b1 : UInt8} (e1 : T[1]? = some b1) (d1 : b1.toNat < 128 ∨ 191 < b1.toNat) (d : Nat) : foldK T v (2 + d - 1) = none := by
  have h : foldK T v 1 = none := by
    show foldK T v (0 + 1) = _
    simp only [foldK, e1, if_pos d1]
  have := foldK_none h d
  rw [← this]
  congr 1
  omega
theorem fold_two {T : List UInt8} {v : Int} {b1 b2 : UInt8} (e1 : T[1]? = some b1) (d1 : ¬ (b1.toNat < 128 ∨ 191 < b1.toNat)) (e2 : T[2]? = some b2) (d2 : ¬ (b2.toNat < 128 ∨ 191 < b2.toNat)) :
    foldK T v (3 - 1) = some (64 * (64 * v + (b1.toNat : Int) - 128) + (b2.toNat : Int) - 128) := by
  have h := fold_one (v := v) e1 d1
  show foldK T v (1 + 1) = _
  unfold foldK
  rw [show foldK T v 1 = _ from h, e2]
  simp only [if_neg d2]
theorem fold_bad2 {T : List UInt8} {v : Int} {b1 b2 : UInt8} (e1 : T[1]? = some b1) (d1 : ¬ (b1.toNat < 128 ∨ 191 < b1.toNat)) (e2 : T[2]? = some b2) (d2 : b2.toNat < 128 ∨ 191 < b2.toNat) (d : Nat) : foldK T v (3 + d - 1) = none := by
  have h : foldK T v 2 = none := by
    have h := fold_one (v := v) e1 d1
    show foldK T v (1 + 1) = _
    unfold foldK
    rw [show foldK T v 1 = _ from h, e2]
    simp only [if_pos d2]
  have := foldK_none h d
  rw [← this]
  congr 1
  omega
theorem fold_three {T : List UInt8} {v : Int} {b1 b2 b3 : UInt8} (e1 : T[1]? = some b1) (d1 : ¬ (b1.toNat < 128 ∨ 191 < b1.toNat)) (e2 : T[2]? = some b2) (d2 : ¬ (b2.toNat < 128 ∨ 191 < b2.toNat)) (e3 : T[3]? = some b3) (d3 : ¬ (b3.toNat < 128 ∨ 191 < b3.toNat)) :
    foldK T v (4 - 1) = some (64 * (64 * (64 * v + (b1.toNat : Int) - 128) + (b2.toNat : Int) - 128) + (b3.toNat : Int) - 128) := by
  have h := fold_two (v := v) e1 d1 e2 d2
  show foldK T v (2 + 1) = _
  unfold foldK
  rw [show foldK T v 2 = _ from h, e3]
  simp only [if_neg d3]
theorem fold_bad3 {T : List UInt8} {v : Int} {b1 b2 b3 : UInt8} (e1 : T[1]? = some b1) (d1 : ¬ (b1.toNat < 128 ∨ 191 < b1.toNat)) (e2 : T[2]? = some b2) (d2 : ¬ (b2.toNat < 128 ∨ 191 < b2.toNat)) (e3 : T[3]? = some b3) (d3 : b3.toNat < 128 ∨ 191 < b3.toNat) : foldK T v (4 - 1) = none := by
  have h := fold_two (v := v) e1 d1 e2 d2
  show foldK T v (2 + 1) = _
  unfold foldK
  rw [show foldK T v 2 = _ from h, e3]
  simp only [if_pos d3]
theorem dec_pick {V L : Int} {n k : Nat} (hn : 1 < n) (h1 : (V < L ∨ 1114111 < V ∨ (55296 ≤ V ∧ V ≤ 57343)) → k = 1) (h2 : ¬ (V < L ∨ 1114111 < V ∨ (55296 ≤ V ∧ V ≤ 57343)) → k = n) :
    k = (match some V with | none => 1 | some v => if 1 < n ∧ badRune L v = true then 1 else n) := by
  by_cases hb : V < L ∨ 1114111 < V ∨ (55296 ≤ V ∧ V ≤ 57343)
  · rw [h1 hb]
    show 1 = if 1 < n ∧ badRune L V = true then 1 else n
    rw [if_pos ⟨hn, decide_eq_true hb⟩]
  · rw [h2 hb]
    show n = if 1 < n ∧ badRune L V = true then 1 else n
    rw [if_neg (fun h => hb (of_decide_eq_true h.2))]
set_option maxHeartbeats 4000000 in
theorem decode_step (s : ByteArray) : ((Lib.decodeGo s).2 : Nat) = stepOf s.data.toList := by
  by_cases h0 : 0 < s.size
  · have hl : s.data.toList.length = s.size := (Lib.size_eq s).symm
    have hst : stepOf s.data.toList = if s.size < nOf s[0].toNat then 1 else match foldK s.data.toList (valOf s[0].toNat) (nOf s[0].toNat - 1) with
        | none => 1
        | some v => if 1 < nOf s[0].toNat ∧ badRune (leastOf s[0].toNat) v = true then 1 else nOf s[0].toNat := by
      unfold stepOf
      rw [byte_at s 0 h0, hl]
      rfl
    have hne : ¬ s.size = 0 := by omega
    have hdec : Lib.decodeGo s = Lib.decodeN s.size s[0].toNat (s.get! 1).toNat (s.get! 2).toNat (s.get! 3).toNat := by
      unfold Lib.decodeGo
      rw [if_neg hne, Lib.decode_at, get_lt s 0 h0]
      rfl
    rw [hdec, hst]
    have hx := s[0].toNat_lt
    have g1 := (s.get! 1).toNat_lt
    have g2 := (s.get! 2).toNat_lt
    have g3 := (s.get! 3).toNat_lt
    have t1 : 1 < s.size → s.data.toList[1]? = some (s.get! 1) := fun h => by rw [get_lt s 1 h]; exact byte_at s 1 h
    have t2 : 2 < s.size → s.data.toList[2]? = some (s.get! 2) := fun h => by rw [get_lt s 2 h]; exact byte_at s 2 h
    have t3 : 3 < s.size → s.data.toList[3]? = some (s.get! 3) := fun h => by rw [get_lt s 3 h]; exact byte_at s 3 h
    obtain ⟨x, hxe⟩ : ∃ x, x = s[0].toNat := ⟨_, rfl⟩
    obtain ⟨b1, hb1⟩ : ∃ b, b = s.get! 1 := ⟨_, rfl⟩
    obtain ⟨b2, hb2⟩ : ∃ b, b = s.get! 2 := ⟨_, rfl⟩
    obtain ⟨b3, hb3⟩ : ∃ b, b = s.get! 3 := ⟨_, rfl⟩
    rw [← hxe] at hx ⊢
    rw [← hb1] at g1 t1 ⊢
    rw [← hb2] at g2 t2 ⊢
    rw [← hb3] at g3 t3 ⊢
    obtain ⟨T, hT⟩ : ∃ T, T = s.data.toList := ⟨_, rfl⟩
    rw [← hT] at t1 t2 t3 ⊢
    obtain ⟨m, hm⟩ : ∃ m, m = s.size := ⟨_, rfl⟩
    rw [← hm] at t1 t2 t3 h0 ⊢
    clear hdec hst hl hne hxe hb1 hb2 hb3 hT hm
    unfold Lib.decodeN
    by_cases c2 : 194 ≤ x ∧ x < 224
    · simp only [nOf, valOf, leastOf, if_pos c2]
      by_cases hm : m < 2
      · rw [if_pos hm]
        repeat' split
        all_goals first | rfl | (exfalso; omega)
      · rw [if_neg hm]
        have e1 := t1 (by omega)
        by_cases d1 : b1.toNat < 128 ∨ 191 < b1.toNat
        · rw [fold_bad e1 d1 0]
          show _ = 1
          repeat' split
          all_goals first | rfl | (exfalso; omega)
        · rw [fold_one e1 d1]
          refine dec_pick (by omega) (fun h => ?_) (fun h => ?_)
          all_goals
            repeat' split
            all_goals first | rfl | (exfalso; omega)
    by_cases c3 : 224 ≤ x ∧ x < 240
    · simp only [nOf, valOf, leastOf, if_neg c2, if_pos c3]
      by_cases hm : m < 3
      · rw [if_pos hm]
        repeat' split
        all_goals first | rfl | (exfalso; omega)
      · rw [if_neg hm]
        have e1 := t1 (by omega)
        have e2 := t2 (by omega)
        by_cases d1 : b1.toNat < 128 ∨ 191 < b1.toNat
        · rw [fold_bad e1 d1 1]
          show _ = 1
          repeat' split
          all_goals first | rfl | (exfalso; omega)
        by_cases d2 : b2.toNat < 128 ∨ 191 < b2.toNat
        · rw [fold_bad2 e1 d1 e2 d2 0]
          show _ = 1
          repeat' split
          all_goals first | rfl | (exfalso; omega)
        · rw [fold_two e1 d1 e2 d2]
          refine dec_pick (by omega) (fun h => ?_) (fun h => ?_)
          all_goals
            repeat' split
            all_goals first | rfl | (exfalso; omega)
    by_cases c4 : 240 ≤ x ∧ x < 245
    · simp only [nOf, valOf, leastOf, if_neg c2, if_neg c3, if_pos c4]
      by_cases hm : m < 4
      · rw [if_pos hm]
        repeat' split
        all_goals first | rfl | (exfalso; omega)
      · rw [if_neg hm]
        have e1 := t1 (by omega)
        have e2 := t2 (by omega)
        have e3 := t3 (by omega)
        by_cases d1 : b1.toNat < 128 ∨ 191 < b1.toNat
        · rw [fold_bad e1 d1 2]
          show _ = 1
          repeat' split
          all_goals first | rfl | (exfalso; omega)
        by_cases d2 : b2.toNat < 128 ∨ 191 < b2.toNat
        · rw [fold_bad2 e1 d1 e2 d2 1]
          show _ = 1
          repeat' split
          all_goals first | rfl | (exfalso; omega)
        by_cases d3 : b3.toNat < 128 ∨ 191 < b3.toNat
        · rw [fold_bad3 e1 d1 e2 d2 e3 d3]
          show _ = 1
          repeat' split
          all_goals first | rfl | (exfalso; omega)
        · rw [fold_three e1 d1 e2 d2 e3 d3]
          refine dec_pick (by omega) (fun h => ?_) (fun h => ?_)
          all_goals
            repeat' split
            all_goals first | rfl | (exfalso; omega)
    · have hr : (if m < nOf x then 1 else match foldK T (valOf x) (nOf x - 1) with
          | none => 1
          | some v => if 1 < nOf x ∧ badRune (leastOf x) v = true then 1 else nOf x) = 1 := by
        simp only [nOf, if_neg c2, if_neg c3, if_neg c4]
        simp [foldK]
      rw [hr]
      repeat' split
      all_goals first | rfl | (exfalso; omega)
  · have e0 : s = ⟨#[]⟩ := by
      cases s with
      | mk d => exact congrArg ByteArray.mk (Array.size_eq_zero_iff.1 (by have : d.size = (ByteArray.mk d).size := rfl; omega))
    subst e0
    rfl
end Rs.Rp
namespace Rs
open Go Go.RowKit
theorem sp_st : sp = st := funext fun T => by
  unfold st
  rw [Rp.decode_step]
  rfl
end Rs
end Go.Proofs.YtdgffpcbpilkcaaGreatDoor
