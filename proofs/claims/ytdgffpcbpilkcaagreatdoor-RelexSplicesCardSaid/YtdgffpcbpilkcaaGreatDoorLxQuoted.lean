/- A text in quotes. -/
import Derived.Test.YtdgffpcbpilkcaaGreatDoorLxOther
namespace Go.Proofs.YtdgffpcbpilkcaaGreatDoor
open Go Go.RowKit Go.Shelf
attribute [local go_sem] Oper.semAt_some

theorem idx_none {R : List UInt8} (h : Lib.indexByte R 39 < 0) : qs R = none := by
  have h1 := Lib.indexByte_ge R 39
  have e : Lib.indexByte R 39 = -1 := by omega
  exact qs_none R (fun k => Lib.indexByte_none e k)
theorem idx_some {R : List UInt8} {i : Nat} (h : Lib.indexByte R 39 = (i : Int)) :
    i < R.length ∧ qs R = if R[i + 1]? = some 39 then (qs (R.drop (i + 2))).map (· + (i + 2)) else some (i + 1) := by
  obtain ⟨h1, h2⟩ := Lib.indexByte_some h
  refine ⟨?_, qs_at R i h1 h2⟩
  rcases Nat.lt_or_ge i R.length with h3 | h3
  · exact h3
  · rw [List.getElem?_eq_none h3] at h1; cases h1
theorem pre_quote (R : List UInt8) : Lib.hasPrefix R [39] = (R.head? == some 39) := by
  cases R with
  | nil => rfl
  | cons b r =>
    show ((39 : UInt8) == b && ([] : List UInt8).isPrefixOf r) = (some b == some (39 : UInt8))
    by_cases h : b = 39
    · subst h; rfl
    · have h1 : ((39 : UInt8) == b) = false := by simpa using fun e : (39 : UInt8) = b => h e.symm
      have h2 : (some b == some (39 : UInt8)) = false := by simpa using h
      rw [h1, h2]; rfl
theorem head_drop (T : List UInt8) (k : Nat) : (T.drop k).head? = T[k]? := by simp

set_option maxRecDepth 100000 in
set_option maxHeartbeats 4000000 in
/-- quoted(). -/
theorem quoted_c (T : List UInt8) (hT : T.length ≤ 10000) (w : World) :
    Calls Tryz.prog 92 #[.agg #[.string (bs T)]] w fun e W' => e = .returned (tokV (rQ T)) ∧ Below w.heap.size w W' := by
  have hP := fun (R : List UInt8) W => Tryz.strings_HasPrefix (bs R) ⟨#[39]⟩ W
  have hI := fun (R : List UInt8) W => Tryz.strings_Index_one (bs R) 39 W
  simp only [bs_list, pre_quote] at hP hI
  obtain ⟨s, hs⟩ : ∃ s, s = bs T := ⟨_, rfl⟩
  have hsz : s.size = T.length := by rw [hs, bs_size]
  have hx : ∀ k, s.extract k s.size = bs (T.drop k) := fun k => by rw [hs, ext_drop]
  have hP0 := hP T
  have hJ := fun W => token_k T 10 s.size [] hT (by omega) s s ⟨#[]⟩ 10 hs (by rw [hsz, List.take_length]; exact hs) rfl rfl W
  have hK := fun (n : Nat) (h : n ≤ T.length) W => token_k T 4 n [] hT h s (bs (T.take n)) ⟨#[]⟩ 4 hs rfl rfl rfl W
  rw [← hs] at hP0 ⊢
  have hs1 : s.size ≤ 10000 := by omega
  obtain ⟨W0, hW0, A0⟩ := at_start w s
  have HP0 := Lib.hid hP0
  have HP := Lib.hid hP
  have HI := Lib.hid hI
  have HJ := Lib.hid hJ
  have HK := Lib.hid hK
  have HS := Lib.hid hs
  have HSZ := Lib.hid hsz
  have HX := Lib.hid hx
  have HA0 := Lib.hid A0
  obtain ⟨c0, d00, d01, d02, f00, f01, f02⟩ := A0.facts
  clear hP0 hP hI hJ hK hs hsz hx hT
  cases h39 : (T.head? == some 39) with
  | false =>
    have hRQ : rQ T = noTk := by
      unfold rQ
      rw [if_neg (by intro h; rw [h] at h39; cases h39)]
    rw [h39] at HP0
    rw [hRQ]
    clear hRQ h39
    go_enter Tryz.func92, Tryz.ntmps92
    go_wp2_with fail
    rw [← hW0]
    clear hW0
    go_wp2_with (first
      | (go_at_call 105; refine (HP0.out _).mono ?_; rintro e w1 ⟨rfl, rfl⟩))
    exact tok_ret (j := 2) rfl rfl rfl (tok_set A0.tok _ _ _) (by simp [tokC, noTk, bs_nil]) ⟨rfl, A0.below3 _ _ _⟩
  | true =>
    have hh : T.head? = some 39 := by simpa using h39
    have hT1 : 1 ≤ s.size := by
      rw [HSZ.out]
      cases T with
      | nil => cases hh
      | cons b r => simp
    have hRQ : rQ T = rqOf T (qs (T.drop 1)) := by
      unfold rQ
      rw [if_pos hh, List.drop_one]
    rw [h39] at HP0
    have HRQ := Lib.hid hRQ
    clear hRQ h39 hh
    go_enter Tryz.func92, Tryz.ntmps92
    go_wp2_with fail
    rw [← hW0]
    clear hW0
    go_wp2_with (go_at_call 105; refine (HP0.out _).mono ?_; rintro e w1 ⟨rfl, hw1⟩; obtain rfl := hw1.symm; clear hw1)
    go_loopw [3] (fun i wr => ∃ a : Nat, 1 ≤ a ∧ a ≤ s.size ∧ i = .int .i64 a ∧ wr = W0 ∧ qs (T.drop 1) = (qs (T.drop a)).map (· + (a - 1)))
      (fun i _ => s.size - (intOf i).toNat)
    case atStart =>
      refine ⟨1, Nat.le_refl _, hT1, rfl, rfl, ?_⟩
      cases qs (T.drop 1) <;> rfl
    case round =>
      obtain ⟨a, ha1, ha2, rfl, rfl, hq⟩ := hrel
      have hxa := HX.out a
      obtain ⟨R, hR⟩ : ∃ R, R = bs (T.drop a) := ⟨_, rfl⟩
      have hIa := HI.out (T.drop a)
      rw [← hR] at hxa hIa
      have HIA := Lib.hid hIa
      have HQ := Lib.hid hq
      clear hIa hq hR
      obtain ⟨x, hxx⟩ : ∃ x, x = Lib.indexByte (T.drop a) 39 := ⟨_, rfl⟩
      rw [← hxx] at HIA
      by_cases hneg : x < 0
      · have hqn : qs (T.drop 1) = none := by rw [HQ.out, idx_none (by rw [← hxx]; exact hneg)]; rfl
        have hRQ := HRQ.out
        rw [hqn] at hRQ
        dsimp only [rqOf] at hRQ
        have HRQ2 := Lib.hid hRQ
        have hlt : decide (x < 0) = true := by simpa using hneg
        clear hqn hRQ hxx
        go_wp2_with (first
          | (go_at_call 60; refine (HIA.out _).mono ?_; rintro e w2 ⟨rfl, rfl⟩)
          | (go_at_call 102; refine (HJ.out _).mono ?_; rintro e w3 ⟨rfl, hb3⟩; have A3 := HA0.out.next hb3; obtain ⟨c3, d30, d31, d32, f30, f31, f32⟩ := A3.facts; clear hb3))
        exact tok_ret (j := 2) (t := ⟨10, T, []⟩) rfl rfl rfl (tok_set A3.tok _ _ _) (by simp [tokC, bs_nil, HS.out]) ⟨by rw [HRQ2.out], A3.below3 _ _ _⟩
      · obtain ⟨i, rfl⟩ : ∃ i : Nat, x = (i : Int) := ⟨x.toNat, by omega⟩
        obtain ⟨hil, hqi⟩ := idx_some hxx.symm
        rw [List.length_drop, ← HSZ.out] at hil
        obtain ⟨b, hb⟩ : ∃ b, b = a + (i + 1) := ⟨_, rfl⟩
        have hxb := HX.out b
        obtain ⟨R2, hR2⟩ : ∃ R2, R2 = bs (T.drop b) := ⟨_, rfl⟩
        have hPb := HP.out (T.drop b)
        rw [← hR2] at hxb hPb
        have e1 : (T.drop a)[i + 1]? = T[b]? := by rw [List.getElem?_drop, hb]
        rw [head_drop] at hPb
        rw [e1] at hqi
        have es1 : (i : Int) + 1 = ((i + 1 : Nat) : Int) := by simp
        obtain ⟨j, hj⟩ : ∃ j, j = i + 1 := ⟨_, rfl⟩
        rw [← hj] at es1
        have es : (a : Int) + (j : Int) = (b : Int) := by rw [hb, hj]; simp
        have hlt : decide ((i : Int) < 0) = false := by simp
        have hb1 : b ≤ s.size := by omega
        have hi1 : i ≤ 10000 := by omega
        have hj1 : j ≤ 10000 := by omega
        have HPB := Lib.hid hPb
        have HBJ : Hid (b = a + j ∧ j = i + 1) := Lib.hid ⟨by rw [hb, hj], hj⟩
        have HQI := Lib.hid hqi
        clear hqi hPb hR2 e1 hb hj hxx hil hneg
        cases hq2 : (T[b]? == some 39) with
        | false =>
          have hqi := HQI.out
          rw [if_neg (by intro h; rw [h] at hq2; cases hq2)] at hqi
          have hq1 : qs (T.drop 1) = some (b - 1) := by rw [HQ.out, hqi]; have := HBJ.out; simp; omega
          have hRQ := HRQ.out
          rw [hq1] at hRQ
          dsimp only [rqOf] at hRQ
          rw [show b - 1 + 1 = b by have := HBJ.out; omega] at hRQ
          have HRQ2 := Lib.hid hRQ
          rw [hq2] at HPB
          have hKb := HK.out b (by rw [← HSZ.out]; exact hb1)
          obtain ⟨U, hU⟩ : ∃ U, U = bs (T.take b) := ⟨_, rfl⟩
          rw [← hU] at hKb
          have HU := Lib.hid hU
          have HKB := Lib.hid hKb
          clear hq1 hqi hRQ hq2 hU hKb
          go_wp2_with (first
            | (go_at_call 60; refine (HIA.out _).mono ?_; rintro e w2 ⟨rfl, rfl⟩)
            | (go_at_call 105; refine (HPB.out _).mono ?_; rintro e w2 ⟨rfl, rfl⟩)
            | (go_at_call 102; refine (HKB.out _).mono ?_; rintro e w3 ⟨rfl, hb3⟩; have A3 := HA0.out.next hb3; obtain ⟨c3, d30, d31, d32, f30, f31, f32⟩ := A3.facts; clear hb3))
          exact tok_ret (j := 2) (t := ⟨4, T.take b, []⟩) rfl rfl rfl (tok_set A3.tok _ _ _) (by simp [tokC, bs_nil, HU.out]) ⟨by rw [HRQ2.out], A3.below3 _ _ _⟩
        | true =>
          have hb39 : T[b]? = some 39 := by simpa using hq2
          have hqi := HQI.out
          rw [if_pos hb39, List.drop_drop] at hqi
          have hbl : b < s.size := by
            rw [HSZ.out]
            rcases Nat.lt_or_ge b T.length with h | h
            · exact h
            · rw [List.getElem?_eq_none h] at hb39; cases hb39
          rw [hq2] at HPB
          have HQ2 : Hid (qs (T.drop 1) = (qs (T.drop (b + 1))).map (· + (b + 1 - 1))) := Lib.hid (by
            have h := HBJ.out
            rw [HQ.out, hqi, show a + (i + 2) = b + 1 by omega, Option.map_map]
            congr 1
            funext n
            simp
            omega)
          clear hqi hq2 hb39
          go_wp2_with (first
            | (go_at_call 60; refine (HIA.out _).mono ?_; rintro e w2 ⟨rfl, rfl⟩)
            | (go_at_call 105; refine (HPB.out _).mono ?_; rintro e w2 ⟨rfl, rfl⟩))
          go_roundw
          case rel => exact ⟨b + 1, by omega, by omega, by simp, by first | rfl | trivial, HQ2.out⟩
          case measure => have := HBJ.out; simp [intOf]; omega
end Go.Proofs.YtdgffpcbpilkcaaGreatDoor
