/- What a token says is that token again, alone. Nothing of the program stands here. -/
import Derived.Test.YthnnjogkomhmfaaDoorLxToks
namespace Go.Proofs.YthnnjogkomhmfaaDoor
open Go Go.RowKit

/-- The same head, the same sign: the same rules fit not. -/
structure Like (T U : List UInt8) : Prop where
  head : U.head? = T.head?
  key : firstK U = firstK T
theorem like_take {T : List UInt8} {n : Nat} (h1 : 1 ≤ n) (h2 : fsz T ≤ n) : Like T (T.take n) := ⟨head_take h1, (sz_take h2).1⟩
section
variable {T U : List UInt8} (h : Like T U)
include h
theorem Like.cls : clsT U = clsT T := by unfold clsT; rw [h.key]
theorem Like.gl : glT U = glT T := by unfold glT; rw [h.key]
theorem Like.B (hn : rB T = noTk) : rB U = noTk := rB_none.2 (by rw [h.head]; exact rB_none.1 hn)
theorem Like.R (hn : rR T = noTk) : rR U = noTk := rR_none.2 (by rw [h.cls]; exact rR_none.1 hn)
theorem Like.Q (hn : rQ T = noTk) : rQ U = noTk := rQ_none.2 (by rw [h.head]; exact rQ_none.1 hn)
theorem Like.N (hn : rN T = noTk) : rN U = noTk := rN_none.2 (by rw [h.head, h.cls]; exact rN_none.1 hn)
theorem Like.W (hn : rW T = noTk) : rW U = noTk := rW_none.2 (by rw [h.head]; exact rW_none.1 hn)
end
section
variable (st : List UInt8 → Nat)
theorem tk1_B {T : List UInt8} (h : rB T ≠ noTk) : tk1 st T = rB T := by show firstTk _ = _; unfold firstTk; rw [if_neg h]
theorem tk1_R {T : List UInt8} (h1 : rB T = noTk) (h : rR T ≠ noTk) : tk1 st T = rR T := by
  show firstTk _ = _; unfold firstTk; rw [if_pos h1]; unfold firstTk; rw [if_neg h]
theorem tk1_Q {T : List UInt8} (h1 : rB T = noTk) (h2 : rR T = noTk) (h : rQ T ≠ noTk) : tk1 st T = rQ T := by
  show firstTk _ = _; unfold firstTk; rw [if_pos h1]; unfold firstTk; rw [if_pos h2]; unfold firstTk; rw [if_neg h]
theorem tk1_N {T : List UInt8} (h1 : rB T = noTk) (h2 : rR T = noTk) (h3 : rQ T = noTk) (h : rN T ≠ noTk) : tk1 st T = rN T := by
  show firstTk _ = _; unfold firstTk; rw [if_pos h1]; unfold firstTk; rw [if_pos h2]; unfold firstTk; rw [if_pos h3]; unfold firstTk; rw [if_neg h]
theorem tk1_W {T : List UInt8} (h1 : rB T = noTk) (h2 : rR T = noTk) (h3 : rQ T = noTk) (h4 : rN T = noTk) (h : rW T ≠ noTk) : tk1 st T = rW T := by
  show firstTk _ = _; unfold firstTk; rw [if_pos h1]; unfold firstTk; rw [if_pos h2]; unfold firstTk; rw [if_pos h3]; unfold firstTk; rw [if_pos h4]; unfold firstTk; rw [if_neg h]
theorem tk1_S {T : List UInt8} (h1 : rB T = noTk) (h2 : rR T = noTk) (h3 : rQ T = noTk) (h4 : rN T = noTk) (h5 : rW T = noTk) (h : rS T ≠ noTk) : tk1 st T = rS T := by
  show firstTk _ = _; unfold firstTk; rw [if_pos h1]; unfold firstTk; rw [if_pos h2]; unfold firstTk; rw [if_pos h3]; unfold firstTk; rw [if_pos h4]; unfold firstTk; rw [if_pos h5]; unfold firstTk; rw [if_neg h]
theorem tk1_O {T : List UInt8} (h1 : rB T = noTk) (h2 : rR T = noTk) (h3 : rQ T = noTk) (h4 : rN T = noTk) (h5 : rW T = noTk) (h6 : rS T = noTk) : tk1 st T = rO st T := by
  show firstTk _ = _; unfold firstTk; rw [if_pos h1]; unfold firstTk; rw [if_pos h2]; unfold firstTk; rw [if_pos h3]; unfold firstTk; rw [if_pos h4]; unfold firstTk; rw [if_pos h5]; unfold firstTk; rw [if_pos h6]; unfold firstTk; rw [if_neg (fun e => by have := congrArg Tk.kind e; cases this)]

theorem take_self (T : List UInt8) (n : Nat) : (T.take n).take n = T.take n := by rw [List.take_take, Nat.min_self]
theorem fsz_head {T : List UInt8} {b : UInt8} (h : T.head? = some b) (hb : noHead b = true) : fsz T = 0 := (cls_none (firstK_noHead h hb)).2.2

theorem again {T : List UInt8} (h0 : T ≠ []) (hk : (tk1 st T).kind ≠ 10) : tk1 st (tk1 st T).text = tk1 st T := by
  obtain ⟨b, r, rfl⟩ : ∃ b r, T = b :: r := by
    cases T with
    | nil => exact absurd rfl h0
    | cons b r => exact ⟨b, r, rfl⟩
  obtain ⟨T, hT⟩ : ∃ T, T = b :: r := ⟨_, rfl⟩
  have hh : T.head? = some b := by rw [hT]; rfl
  rw [← hT] at hk ⊢
  clear hT h0
  rcases Decidable.em (¬ rB T = noTk) with hB | hB
  · rw [tk1_B st hB] at hk ⊢
    have hn : nOf isB T ≠ 0 := fun e => hB (by unfold rB; rw [if_pos e])
    have e1 : rB T = ⟨1, T.take (nOf isB T), []⟩ := by unfold rB; rw [if_neg hn]
    have e2 : rB (T.take (nOf isB T)) = ⟨1, T.take (nOf isB T), []⟩ := by
      unfold rB
      rw [nOf_take, if_neg hn, take_self]
    rw [e1]
    show tk1 st (T.take (nOf isB T)) = _
    rw [tk1_B st (by rw [e2]; simp [noTk]), e2]
  replace hB := Classical.not_not.1 hB
  rcases Decidable.em (¬ rR T = noTk) with hR | hR
  · rw [tk1_R st hB hR] at hk ⊢
    have e1 : (rR T).text = T := by
      unfold rR at hR ⊢
      split
      · rfl
      · rename_i h; rw [if_neg h] at hR; exact absurd rfl hR
    rw [e1, tk1_R st hB hR]
  replace hR := Classical.not_not.1 hR
  rcases Decidable.em (¬ rQ T = noTk) with hQ | hQ
  · rw [tk1_Q st hB hR hQ] at hk ⊢
    have h39 : T.head? = some 39 := Classical.byContradiction fun e => hQ (rQ_none.2 e)
    have e1 : rQ T = rqOf T (qs T.tail) := by unfold rQ; rw [if_pos h39]
    rw [e1] at hk ⊢
    cases hq : qs T.tail with
    | none => rw [hq] at hk; exact absurd rfl hk
    | some n =>
      rw [hq] at hk
      show tk1 st (T.take (n + 1)) = ⟨4, T.take (n + 1), []⟩
      have hl : Like T (T.take (n + 1)) := like_take (by omega) (by rw [fsz_head h39 (by decide)]; omega)
      have ht : (T.take (n + 1)).tail = T.tail.take n := by
        cases T with
        | nil => cases h39
        | cons c q => rfl
      have e2 : rQ (T.take (n + 1)) = ⟨4, T.take (n + 1), []⟩ := by
        unfold rQ
        rw [hl.head, if_pos h39, ht, qs_take _ _ hq]
        show (⟨4, (T.take (n + 1)).take (n + 1), []⟩ : Tk) = _
        rw [take_self]
      rw [tk1_Q st (hl.B hB) (hl.R hR) (by rw [e2]; simp [noTk]), e2]
  replace hQ := Classical.not_not.1 hQ
  rcases Decidable.em (¬ rN T = noTk) with hN | hN
  · rw [tk1_N st hB hR hQ hN] at hk ⊢
    obtain ⟨z, hz⟩ : ∃ z, z = mz T := ⟨_, rfl⟩
    obtain ⟨d, hd⟩ : ∃ d, d = nOf isD (T.drop z) := ⟨_, rfl⟩
    have e0 : rN T = if z + d = 0 then noTk else if d = 0 ∨ 18 < d then ⟨10, T.take (z + d), []⟩ else ⟨3, T.take (z + d), short (mg T) ((T.drop z).take d)⟩ := by rw [hd, hz]; rfl
    have h1 : z + d ≠ 0 := fun e => hN (by rw [e0, if_pos e])
    rw [if_neg h1] at e0
    have h2 : ¬ (d = 0 ∨ 18 < d) := fun e => by rw [e0, if_pos e] at hk; exact hk rfl
    rw [if_neg h2] at e0
    have hf : fsz T ≤ z + d := by
      by_cases h5 : clsT T = 5
      · have : z = fsz T := by rw [hz]; unfold mz; rw [if_pos h5]
        omega
      · have hz0 : z = 0 := by rw [hz]; exact mz_zero.2 h5
        have hbd : isD b = true := by
          cases hb : isD b with
          | true => rfl
          | false =>
            rw [hz0, List.drop_zero] at hd
            have h9 : nOf isD T = 0 := nOf_zero.2 (fun c hc => by rw [hh] at hc; cases hc; exact hb)
            omega
        rw [fsz_head hh (by unfold noHead isW; rw [hbd]; simp)]
        omega
    have hl : Like T (T.take (z + d)) := like_take (by omega) hf
    have hmz : mz (T.take (z + d)) = z := by unfold mz; rw [hl.cls, (sz_take hf).2]; exact hz.symm
    have hmg : mg (T.take (z + d)) = mg T := by unfold mg; rw [hl.cls, hl.gl]
    have hdr : (T.take (z + d)).drop z = (T.drop z).take d := by rw [List.drop_take, Nat.add_sub_cancel_left]
    have hnd : nOf isD ((T.drop z).take d) = d := by rw [hd]; exact nOf_take isD _
    have e2 : rN (T.take (z + d)) = ⟨3, T.take (z + d), short (mg T) ((T.drop z).take d)⟩ := by
      unfold rN
      rw [hmz, hmg, hdr, hnd, if_neg h1, if_neg h2, take_self, take_self]
    rw [e0]
    show tk1 st (T.take (z + d)) = _
    rw [tk1_N st (hl.B hB) (hl.R hR) (hl.Q hQ) (by rw [e2]; simp [noTk]), e2]
  replace hN := Classical.not_not.1 hN
  rcases Decidable.em (¬ rW T = noTk) with hW | hW
  · rw [tk1_W st hB hR hQ hN hW] at hk ⊢
    have h1 : nOf isL T ≠ 0 := fun e => hW (by unfold rW; rw [if_pos e])
    have hbl : isL b = true := by
      cases hb : isL b with
      | true => rfl
      | false => exact absurd (nOf_zero.2 (fun c hc => by rw [hh] at hc; cases hc; exact hb)) h1
    obtain ⟨m, hm⟩ : ∃ m, m = nOf isW T := ⟨_, rfl⟩
    have e0 : rW T = if 20 < m then ⟨10, T.take m, []⟩ else ⟨5, T.take m, []⟩ := by rw [hm]; unfold rW; rw [if_neg h1]
    have h2 : ¬ 20 < m := fun e => by rw [e0, if_pos e] at hk; exact hk rfl
    rw [if_neg h2] at e0
    have hm1 : 1 ≤ m := by rw [hm]; exact nOf_pos hh (by unfold isW; rw [hbl]; rfl)
    have hl : Like T (T.take m) := like_take hm1 (by rw [fsz_head hh (by unfold noHead isW; rw [hbl]; simp)]; omega)
    have e2 : rW (T.take m) = ⟨5, T.take m, []⟩ := by
      have h3 : nOf isL (T.take m) ≠ 0 := fun e => by
        have := nOf_zero.1 e b (by rw [hl.head]; exact hh)
        rw [hbl] at this; cases this
      have h4 : nOf isW (T.take m) = m := by rw [hm]; exact nOf_take isW T
      unfold rW
      rw [if_neg h3, h4, if_neg h2, take_self]
    rw [e0]
    show tk1 st (T.take m) = _
    rw [tk1_W st (hl.B hB) (hl.R hR) (hl.Q hQ) (hl.N hN) (by rw [e2]; simp [noTk]), e2]
  replace hW := Classical.not_not.1 hW
  rcases Decidable.em (¬ rS T = noTk) with hS | hS
  · rw [tk1_S st hB hR hQ hN hW hS] at hk ⊢
    have h1 : kindC (clsT T) ≠ 0 := fun e => hS (rS_none.2 e)
    have e0 : rS T = ⟨kindC (clsT T), T.take (fsz T), glT T⟩ := by unfold rS; rw [if_neg h1]
    have h2 : fsz T ≠ 0 := fsz_ne (fun e => h1 (by rw [e]; rfl))
    have hl : Like T (T.take (fsz T)) := like_take (by omega) (Nat.le_refl _)
    have e2 : rS (T.take (fsz T)) = ⟨kindC (clsT T), T.take (fsz T), glT T⟩ := by
      unfold rS
      rw [hl.cls, hl.gl, if_neg h1, (sz_take (Nat.le_refl _)).2, take_self]
    rw [e0]
    show tk1 st (T.take (fsz T)) = _
    rw [tk1_S st (hl.B hB) (hl.R hR) (hl.Q hQ) (hl.N hN) (hl.W hW) (by rw [e2]; exact fun e => h1 (congrArg Tk.kind e)), e2]
  replace hS := Classical.not_not.1 hS
  rw [tk1_O st hB hR hQ hN hW hS] at hk
  exact absurd rfl hk

variable (hst : ∀ T : List UInt8, T ≠ [] → 1 ≤ st T ∧ st T ≤ T.length)
include hst
theorem toks_again {T : List UInt8} (h0 : T ≠ []) (hk : (tk1 st T).kind ≠ 10) : toks st (tk1 st T).text 0 = [tk1 st T] := by
  obtain ⟨h1, h2, _⟩ := tk1_len st hst h0
  have hne : (tk1 st T).text ≠ [] := fun e => by rw [e] at h1; simp at h1
  rw [toks_cons st hst hne, again st h0 hk, List.drop_length, toks_nil]
/-- A text is one token that is a name, just if its first token is a name, and all of it. -/
theorem toks_name {T : List UInt8} (h0 : T ≠ []) : ((tk1 st T).kind = 5 ∧ (tk1 st T).text = T) ↔ ∃ x, toks st T 0 = [x] ∧ x.kind = 5 := by
  obtain ⟨h1, h2, h3⟩ := tk1_len st hst h0
  constructor
  · rintro ⟨hk, ht⟩
    refine ⟨tk1 st T, ?_, hk⟩
    rw [toks_cons st hst h0]
    rw [ht, List.drop_length, toks_nil]
  · rintro ⟨x, hx, hk⟩
    have htx := toks_text st hst T.length T (Nat.le_refl _)
    rw [hx] at htx
    rw [toks_cons st hst h0] at hx
    have : tk1 st T = x := (List.cons.inj hx).1
    rw [this]
    refine ⟨hk, ?_⟩
    simpa using htx
end
end Go.Proofs.YthnnjogkomhmfaaDoor
