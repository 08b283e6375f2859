/- The law NodeJoins. Written by gen/mkjoins.py. -/
import Derived.Test.YtbegplfijjbpcaaDoorNoKidR
namespace Go.Proofs.YtbegplfijjbpcaaDoor.No
open Go Go.RowKit Go.Shelf
attribute [local go_sem] Oper.semAt_some

theorem OUT.t {w W' : World} {e : Ending} {A : List Nd × Nat} (h : OUT w W' e A) : TOLD W' e A := by
  rcases h with ⟨bb, q, r, cap, total, L, u, rfl, hB, rfl⟩ | ⟨rfl, rfl⟩
  · have hN := hB.nl
    refine ⟨some ⟨q, 0, none⟩, cap, ?_, ?_⟩
    · show _ = Ending.returned (.tuple #[.slice _ (L.map (·.1)).length _, _])
      rw [List.length_map]
      rfl
    · show NL W' (.slice _ (L.map (·.1)).length _) (L.map (·.1))
      rw [List.length_map]
      exact hN
  · exact TOLD.no rfl
/-- What is told, with letters for its length and its number. -/
theorem TOLD.let {W' : World} {e : Ending} {A : List Nd × Nat} (h : TOLD W' e A) {T : List Nd} {n : Nat} {ev : Int} (hT : T = A.1) (hn : n = A.1.length) (hev : ev = ((A.2 : Nat) : Int)) : ∃ a c, e = .returned (.tuple #[.slice a n c, .int .i64 ev]) ∧ NL W' (.slice a n c) T := by
  obtain ⟨a, c, rfl, hN⟩ := h
  subst hT
  subst hn
  subst hev
  exact ⟨a, c, rfl, hN⟩

set_option maxRecDepth 100000 in
set_option maxHeartbeats 4000000 in
theorem joins_true (w : World) (hG : NG w) (a : Int) (s : ByteArray) (hs : s.size ≤ maxLen) (v : Value) (KS0 : List (List Nd)) (hv : LL w v KS0 ∧ ∀ K ∈ KS0, ∀ x ∈ K, x.text.length ≤ maxLen) (v2 : Value) (T0 : List Nd) (hv2 : NL w v2 T0 ∧ ∀ x ∈ T0, x.text.length ≤ maxLen) (i : Int) :
    Calls Tryd.prog 4 #[.int .i64 a, .string s, v, v2, .int .i64 i] w fun e W' => e = .returned (.bool true) ∧ Below w.heap.size w W' := by
  obtain ⟨ad, hE⟩ := hG
  obtain ⟨a0, c0, rfl, _, _⟩ := hv.1.form
  obtain ⟨b0, d0, rfl, _, _⟩ := hv2.1.form
  obtain ⟨n0, hn0⟩ : ∃ n, n = KS0.length := ⟨_, rfl⟩
  obtain ⟨m0, hm0⟩ : ∃ n, n = T0.length := ⟨_, rfl⟩
  rw [← hn0] at hv ⊢
  rw [← hm0] at hv2 ⊢
  have HE := Lib.hid hE
  have HV := Lib.hid hv
  have HV2 := Lib.hid hv2
  obtain ⟨X, hX⟩ : ∃ X, X = cut5 s := ⟨_, rfl⟩
  have HXL : Hid (X.length ≤ 50) := Lib.hid (by rw [hX]; exact cut5_len s)
  obtain ⟨SX, hSX⟩ : ∃ B, B = bs X := ⟨_, rfl⟩
  have HSX := Lib.hid hSX
  have CS : Hid (∀ W, Calls Tryd.prog 21 #[.string s] W fun e W' => e = .returned (.string SX) ∧ W' = W) := Lib.hid (fun W => by rw [hSX, hX]; exact cut_c s hs W)
  clear hE hs hX hSX hv hv2 hn0 hm0
  go_enter Tryd.func4, Tryd.ntmps4
  go_wp2_with fail
  refine (shown_c w ad HE.out).mono ?_
  rintro e w1 ⟨rfl, hb1⟩
  have HB1 := Lib.hid hb1
  clear hb1
  go_wp2_with fail
  refine (some_c w1 _ KS0 (HV.out.1.below HB1.out) HV.out.2).mono ?_
  rintro e w2 ⟨hb2, l, M, rfl, hM, hKS⟩
  have HB2 := Lib.hid (HB1.out.trans (hb2.mono HB1.out.size))
  obtain ⟨KS, hKE⟩ : ∃ KS, KS = someN KS0 := ⟨_, rfl⟩
  have hL := hM.ll
  rw [hKS, ← hKE] at hL
  obtain ⟨la, lc, rfl⟩ := own_form hM.row
  obtain ⟨ln, hln⟩ : ∃ n, n = M.length := ⟨_, rfl⟩
  rw [← hln] at hL ⊢
  have HL2 := Lib.hid hL
  have HKL : Hid (KS.length ≤ 4) := Lib.hid (by rw [hKE]; exact someN_len _)
  have HKS : Hid (∀ K ∈ KS, K.length ≤ 60 ∧ ∀ x ∈ K, x.kids.length ≤ 60 ∧ x.text.length ≤ 50) := Lib.hid (by rw [hKE]; exact fun K hK => someN_small _ K hK)
  clear hb2 hM hKS hKE hL hln
  go_wp2_with fail
  refine (few_c w2 _ T0 (HV2.out.1.below HB2.out) HV2.out.2).mono ?_
  rintro e w3 ⟨hb3, l, M, rfl, hM, hKS⟩
  have HB3 := Lib.hid (HB2.out.trans (hb3.mono HB2.out.size))
  have HL3 := Lib.hid (HL2.out.below hb3)
  obtain ⟨T, hT⟩ : ∃ KS, KS = fewN T0 := ⟨_, rfl⟩
  have hL := hM.nl
  rw [hKS, ← hT] at hL
  obtain ⟨ta, tc, rfl⟩ := own_form hM.row
  obtain ⟨tn, hln⟩ : ∃ n, n = M.length := ⟨_, rfl⟩
  rw [← hln] at hL ⊢
  have HT3 := Lib.hid hL
  have HTL : Hid (T.length ≤ 60) := Lib.hid (by rw [hT]; exact fewN_len _)
  have HTS : Hid (∀ x ∈ T, x.kids.length ≤ 60 ∧ x.text.length ≤ 50) := Lib.hid (by rw [hT]; exact fewN_small _)
  clear hb3 hM hKS hT hL hln
  obtain ⟨TA, hTA⟩ : ∃ x, x = (joinA a X []).1 := ⟨_, rfl⟩
  obtain ⟨nA, hnA⟩ : ∃ x, x = (joinA a X []).1.length := ⟨_, rfl⟩
  obtain ⟨eA, heA⟩ : ∃ x : Int, x = (((joinA a X []).2 : Nat) : Int) := ⟨_, rfl⟩
  obtain ⟨TB, hTB⟩ : ∃ x, x = (joinA a X KS).1 := ⟨_, rfl⟩
  obtain ⟨nB, hnB⟩ : ∃ x, x = (joinA a X KS).1.length := ⟨_, rfl⟩
  obtain ⟨eB, heB⟩ : ∃ x : Int, x = (((joinA a X KS).2 : Nat) : Int) := ⟨_, rfl⟩
  obtain ⟨TC, hTC⟩ : ∃ x, x = (kidA T i).1 := ⟨_, rfl⟩
  obtain ⟨nC, hnC⟩ : ∃ x, x = (kidA T i).1.length := ⟨_, rfl⟩
  obtain ⟨eC, heC⟩ : ∃ x : Int, x = (((kidA T i).2 : Nat) : Int) := ⟨_, rfl⟩
  have C1 : Hid (∀ W, EN W ad → Calls Tryd.prog 20 #[.int .i64 a, .string SX] W fun e W' => Below W.heap.size W W' ∧ ∃ a c, e = .returned (.tuple #[.slice a nA c, .int .i64 eA]) ∧ NL W' (.slice a nA c) TA) := Lib.hid (fun W h1 => by rw [HSX.out]; exact (pleaf_c W a X (by have := HXL.out; omega) ad h1).mono (fun e W' ⟨h2, h3⟩ => ⟨h2, h3.t.let hTA hnA heA⟩))
  have C2 : Hid (∀ W, Calls Tryd.prog 22 #[.int .i64 a, .string SX] W fun e W' => Below W.heap.size W W' ∧ ∃ a c, e = .returned (.tuple #[.slice a nA c, .int .i64 eA]) ∧ NL W' (.slice a nA c) TA) := Lib.hid (fun W => by rw [HSX.out]; exact (rleaf_c W a X HXL.out).mono (fun e W' ⟨h2, h3⟩ => ⟨h2, h3.let hTA hnA heA⟩))
  have C3 : Hid (∀ W, EN W ad → LL W (.slice la ln lc) KS → Calls Tryd.prog 23 #[.int .i64 a, .string SX, .slice la ln lc] W fun e W' => Below W.heap.size W W' ∧ ∃ a c, e = .returned (.tuple #[.slice a nB c, .int .i64 eB]) ∧ NL W' (.slice a nB c) TB) := Lib.hid (fun W h1 h2 => by rw [HSX.out]; exact (pjoin_c W a X _ KS h2 (by have := HKL.out; omega) (by have := HXL.out; omega) (fun K hK x hx => by have := (HKS.out K hK).2 x hx; omega) ad h1).mono (fun e W' ⟨h2, h3⟩ => ⟨h2, h3.t.let hTB hnB heB⟩))
  have C4 : Hid (∀ W, LL W (.slice la ln lc) KS → Calls Tryd.prog 24 #[.int .i64 a, .string SX, .slice la ln lc] W fun e W' => Below W.heap.size W W' ∧ ∃ a c, e = .returned (.tuple #[.slice a nB c, .int .i64 eB]) ∧ NL W' (.slice a nB c) TB) := Lib.hid (fun W h2 => by rw [HSX.out]; exact (rjoin_c W a X _ KS h2 HXL.out HKL.out HKS.out).mono (fun e W' ⟨h2, h3⟩ => ⟨h2, h3.let hTB hnB heB⟩))
  have C5 : Hid (∀ W, EN W ad → NL W (.slice ta tn tc) T → Calls Tryd.prog 25 #[.slice ta tn tc, .int .i64 i] W fun e W' => Below W.heap.size W W' ∧ ∃ a c, e = .returned (.tuple #[.slice a nC c, .int .i64 eC]) ∧ NL W' (.slice a nC c) TC) := Lib.hid (fun W h1 h2 => (pkid_c W _ T i h2 (fun x hx => by have := HTS.out x hx; omega) (fun x hx => by have := HTS.out x hx; omega) ad h1).mono (fun e W' ⟨h2, h3⟩ => ⟨h2, h3.t.let hTC hnC heC⟩))
  have C6 : Hid (∀ W, NL W (.slice ta tn tc) T → Calls Tryd.prog 26 #[.slice ta tn tc, .int .i64 i] W fun e W' => Below W.heap.size W W' ∧ ∃ a c, e = .returned (.tuple #[.slice a nC c, .int .i64 eC]) ∧ NL W' (.slice a nC c) TC) := Lib.hid (fun W h2 => (rkid_c W _ T i h2 HTL.out HTS.out).mono (fun e W' ⟨h2, h3⟩ => ⟨h2, h3.let hTC hnC heC⟩))
  have SM : Hid (∀ W z z' (L : List Nd), NL W z L → NL W z' L → Calls Tryd.prog 18 #[z, z'] W fun e W' => e = .returned (.bool true) ∧ Below W.heap.size W W') := Lib.hid (fun W z z' L h h' => by have := rsame_c z z' L L W h h'; rw [decide_eq_true rfl] at this; exact this)
  clear hTA hnA heA hTB hnB heB hTC hnC heC
  go_wp2_with fail
  refine (CS.out w3).mono ?_
  rintro e w3' ⟨rfl, rfl⟩
  go_wp2_with fail
  refine (C1.out w3' (HE.out.below HB3.out) ).mono ?_
  rintro e w4 ⟨hb4, a1, c1, rfl, hN1⟩
  have HB4 := Lib.hid (HB3.out.trans (hb4.mono HB3.out.size))
  have HL4 := Lib.hid (HL3.out.below hb4)
  have HT4 := Lib.hid (HT3.out.below hb4)
  have HN1_4 := Lib.hid hN1
  clear hb4 hN1
  go_wp2_with fail
  refine (CS.out w4).mono ?_
  rintro e w4' ⟨rfl, rfl⟩
  go_wp2_with fail
  refine (C2.out w4' ).mono ?_
  rintro e w5 ⟨hb5, a2, c2, rfl, hN2⟩
  have HB5 := Lib.hid (HB4.out.trans (hb5.mono HB4.out.size))
  have HL5 := Lib.hid (HL4.out.below hb5)
  have HT5 := Lib.hid (HT4.out.below hb5)
  have HN1_5 := Lib.hid (HN1_4.out.below hb5)
  have HN2_5 := Lib.hid hN2
  clear hb5 hN2
  go_wp2_with fail
  refine (CS.out w5).mono ?_
  rintro e w5' ⟨rfl, rfl⟩
  go_wp2_with fail
  refine (C3.out w5' (HE.out.below HB5.out) HL5.out).mono ?_
  rintro e w6 ⟨hb6, a3, c3, rfl, hN3⟩
  have HB6 := Lib.hid (HB5.out.trans (hb6.mono HB5.out.size))
  have HL6 := Lib.hid (HL5.out.below hb6)
  have HT6 := Lib.hid (HT5.out.below hb6)
  have HN1_6 := Lib.hid (HN1_5.out.below hb6)
  have HN2_6 := Lib.hid (HN2_5.out.below hb6)
  have HN3_6 := Lib.hid hN3
  clear hb6 hN3
  go_wp2_with fail
  refine (CS.out w6).mono ?_
  rintro e w6' ⟨rfl, rfl⟩
  go_wp2_with fail
  refine (C4.out w6' HL6.out).mono ?_
  rintro e w7 ⟨hb7, a4, c4, rfl, hN4⟩
  have HB7 := Lib.hid (HB6.out.trans (hb7.mono HB6.out.size))
  have HL7 := Lib.hid (HL6.out.below hb7)
  have HT7 := Lib.hid (HT6.out.below hb7)
  have HN1_7 := Lib.hid (HN1_6.out.below hb7)
  have HN2_7 := Lib.hid (HN2_6.out.below hb7)
  have HN3_7 := Lib.hid (HN3_6.out.below hb7)
  have HN4_7 := Lib.hid hN4
  clear hb7 hN4
  go_wp2_with fail
  refine (C5.out w7 (HE.out.below HB7.out) HT7.out).mono ?_
  rintro e w8 ⟨hb8, a5, c5, rfl, hN5⟩
  have HB8 := Lib.hid (HB7.out.trans (hb8.mono HB7.out.size))
  have HL8 := Lib.hid (HL7.out.below hb8)
  have HT8 := Lib.hid (HT7.out.below hb8)
  have HN1_8 := Lib.hid (HN1_7.out.below hb8)
  have HN2_8 := Lib.hid (HN2_7.out.below hb8)
  have HN3_8 := Lib.hid (HN3_7.out.below hb8)
  have HN4_8 := Lib.hid (HN4_7.out.below hb8)
  have HN5_8 := Lib.hid hN5
  clear hb8 hN5
  go_wp2_with fail
  refine (C6.out w8 HT8.out).mono ?_
  rintro e w9 ⟨hb9, a6, c6, rfl, hN6⟩
  have HB9 := Lib.hid (HB8.out.trans (hb9.mono HB8.out.size))
  have HL9 := Lib.hid (HL8.out.below hb9)
  have HT9 := Lib.hid (HT8.out.below hb9)
  have HN1_9 := Lib.hid (HN1_8.out.below hb9)
  have HN2_9 := Lib.hid (HN2_8.out.below hb9)
  have HN3_9 := Lib.hid (HN3_8.out.below hb9)
  have HN4_9 := Lib.hid (HN4_8.out.below hb9)
  have HN5_9 := Lib.hid (HN5_8.out.below hb9)
  have HN6_9 := Lib.hid hN6
  clear hb9 hN6
  go_wp2_with fail
  refine (SM.out w9 _ _ TA HN1_9.out HN2_9.out).mono ?_
  rintro e w10 ⟨rfl, hb10⟩
  have HB10 := Lib.hid (HB9.out.trans (hb10.mono HB9.out.size))
  have HN1_10 := Lib.hid (HN1_9.out.below hb10)
  have HN2_10 := Lib.hid (HN2_9.out.below hb10)
  have HN3_10 := Lib.hid (HN3_9.out.below hb10)
  have HN4_10 := Lib.hid (HN4_9.out.below hb10)
  have HN5_10 := Lib.hid (HN5_9.out.below hb10)
  have HN6_10 := Lib.hid (HN6_9.out.below hb10)
  clear hb10
  go_wp2_with fail
  refine (SM.out w10 _ _ TB HN3_10.out HN4_10.out).mono ?_
  rintro e w11 ⟨rfl, hb11⟩
  have HB11 := Lib.hid (HB10.out.trans (hb11.mono HB10.out.size))
  have HN1_11 := Lib.hid (HN1_10.out.below hb11)
  have HN2_11 := Lib.hid (HN2_10.out.below hb11)
  have HN3_11 := Lib.hid (HN3_10.out.below hb11)
  have HN4_11 := Lib.hid (HN4_10.out.below hb11)
  have HN5_11 := Lib.hid (HN5_10.out.below hb11)
  have HN6_11 := Lib.hid (HN6_10.out.below hb11)
  clear hb11
  go_wp2_with fail
  refine (SM.out w11 _ _ TC HN5_11.out HN6_11.out).mono ?_
  rintro e w12 ⟨rfl, hb12⟩
  have HB12 := Lib.hid (HB11.out.trans (hb12.mono HB11.out.size))
  have HN1_12 := Lib.hid (HN1_11.out.below hb12)
  have HN2_12 := Lib.hid (HN2_11.out.below hb12)
  have HN3_12 := Lib.hid (HN3_11.out.below hb12)
  have HN4_12 := Lib.hid (HN4_11.out.below hb12)
  have HN5_12 := Lib.hid (HN5_11.out.below hb12)
  have HN6_12 := Lib.hid (HN6_11.out.below hb12)
  clear hb12
  go_wp2
  go_ret
  exact ⟨rfl, HB12.out⟩
end Go.Proofs.YtbegplfijjbpcaaDoor.No
