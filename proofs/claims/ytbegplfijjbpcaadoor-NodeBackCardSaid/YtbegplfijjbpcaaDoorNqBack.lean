/- The law NodeBack. -/
import Derived.Test.YtbegplfijjbpcaaDoorNqShows
namespace Go.Proofs.YtbegplfijjbpcaaDoor.No
open Go Go.RowKit Go.Shelf
attribute [local go_sem] Oper.semAt_some

/-- What is behind the first k parts: how many nodes, how deep. -/
def sizK (KS : List (List Nd)) (k : Nat) : Nat := sumL ((KS.take k).map List.length) + 1
def depK (KS : List (List Nd)) (k : Nat) : Nat := ((KS.take k).map deepA).foldl max 0
theorem siz_next {KS : List (List Nd)} {k : Nat} {K : List Nd} (h : KS[k]? = some K) : sizK KS (k + 1) = sizK KS k + K.length := by
  unfold sizK
  rw [List.take_add_one, h, List.map_append, sumL_app]
  show sumL _ + sumL [K.length] + 1 = _
  rw [sumL_cons]
  show _ + (K.length + 0) + 1 = _
  omega
theorem dep_next {KS : List (List Nd)} {k : Nat} {K : List Nd} (h : KS[k]? = some K) : depK KS (k + 1) = max (depK KS k) (deepA K) := by
  unfold depK
  rw [List.take_add_one, h, List.map_append, List.foldl_append]
  rfl
theorem deepA_le {T : List Nd} (h : RightT T) : deepA T ≤ T.length := by
  rw [deep_right h]
  have := deep_le h.kidsOk (T.length - 1) (by have := h.pos; omega)
  have := h.pos
  omega

set_option maxRecDepth 100000 in
set_option maxHeartbeats 2000000 in
theorem back_true (w : World) (hG : NG w) (a : Int) (s : ByteArray) (hs : s.size ≤ maxLen) (v : Value) (KS0 : List (List Nd)) (hv : LL w v KS0 ∧ ∀ K ∈ KS0, ∀ x ∈ K, x.text.length ≤ maxLen) :
    Calls Tryd.prog 5 #[.int .i64 a, .string s, v] w fun e W' => e = .returned (.bool true) ∧ Below w.heap.size w W' := by
  obtain ⟨ad, hE⟩ := hG
  obtain ⟨a0, c0, rfl, _, _⟩ := hv.1.form
  obtain ⟨n0, hn0⟩ : ∃ n, n = KS0.length := ⟨_, rfl⟩
  rw [← hn0] at hv ⊢
  have HE := Lib.hid hE
  have HV := Lib.hid hv
  obtain ⟨X, hX⟩ : ∃ X, X = cut5 s := ⟨_, rfl⟩
  have HXL : Hid (X.length ≤ 50) := Lib.hid (by rw [hX]; exact cut5_len s)
  obtain ⟨SX, hSX⟩ : ∃ B, B = bs X := ⟨_, rfl⟩
  have HSX := Lib.hid hSX
  have CS : Hid (∀ W, Calls Tryd.prog 21 #[.string s] W fun e W' => e = .returned (.string SX) ∧ W' = W) := Lib.hid (fun W => by rw [hSX, hX]; exact cut_c s hs W)
  clear hE hs hX hSX hv hn0
  go_enter Tryd.func5, Tryd.ntmps5
  go_wp2_with fail
  refine (shown_c w ad HE.out).mono ?_
  rintro e w1 ⟨rfl, hb1⟩
  have HB1 := Lib.hid hb1
  clear hb1
  go_wp2_with fail
  refine (some_c w1 _ KS0 (HV.out.1.below HB1.out) HV.out.2).mono ?_
  rintro e w2 ⟨hb2, l, M, rfl, hM, hKS⟩
  have HB2 := Lib.hid (HB1.out.trans (hb2.mono HB1.out.size))
  obtain ⟨KS, hKE⟩ : ∃ KS, KS = someN KS0 := ⟨_, rfl⟩
  have hL := hM.ll
  rw [hKS, ← hKE] at hL
  obtain ⟨la, lc, rfl⟩ := own_form hM.row
  have hKM : M.length = KS.length := by
    have := congrArg List.length hKS
    rw [List.length_map, ← hKE] at this
    exact this
  obtain ⟨ln, hln⟩ : ∃ n, n = M.length := ⟨_, rfl⟩
  rw [← hln] at hL ⊢
  have HLN : Hid (ln = KS.length) := Lib.hid (by rw [hln, hKM])
  have HL2 := Lib.hid hL
  have HKL : Hid (KS.length ≤ 4) := Lib.hid (by rw [hKE]; exact someN_len _)
  have HKS : Hid (∀ K ∈ KS, ∀ x ∈ K, x.kids.length ≤ 60 ∧ x.text.length ≤ 50) := Lib.hid (by rw [hKE]; exact fun K hK => (someN_small _ K hK).2)
  have HK60 : Hid (∀ K ∈ KS, K.length ≤ 60) := Lib.hid (by rw [hKE]; exact fun K hK => (someN_small _ K hK).1)
  have JX : Hid (∀ W, EN W ad → LL W (.slice la ln lc) KS → Calls Tryd.prog 23 #[.int .i64 a, .string SX, .slice la ln lc] W fun e W' => Below W.heap.size W W' ∧ OUT W W' e (joinA a X KS)) := Lib.hid (fun W h1 h2 => by rw [HSX.out]; exact pjoin_c W a X _ KS h2 (by have := HKL.out; omega) (by have := HXL.out; omega) (fun K hK x hx => by have := HKS.out K hK x hx; omega) ad h1)
  clear hb2 hM hKS hKE hL hln hKM
  go_wp2_with fail
  refine (CS.out w2).mono ?_
  rintro e w2' ⟨rfl, rfl⟩
  go_wp2_with fail
  refine (JX.out w2' (HE.out.below HB2.out) HL2.out).mono ?_
  rintro e w3 ⟨hb3, ho3⟩
  have HB3 := Lib.hid (HB2.out.trans (hb3.mono HB2.out.size))
  have HL3 := Lib.hid (HL2.out.below hb3)
  have ho3' := ho3.join
  clear hb3 ho3
  rcases ho3' with ⟨q, n, cap, rfl, hN, hn, hR, hRK, -⟩ | ⟨rfl, -⟩
  · have hsm : ∀ x ∈ joinL a X KS, x.kids.length ≤ 60 ∧ x.text.length ≤ 50 := join_small HXL.out HKL.out HKS.out
    have HPART : Hid (∀ (i : Nat) (K : List Nd), KS[i]? = some K → kidA (joinL a X KS) (i : Int) = (K, 0)) := Lib.hid (fun i K h => kid_part ((right_iff _).2 hR) h ((right_iff _).2 (hRK K (List.mem_of_getElem? h))))
    have HPAST : Hid (kidA (joinL a X KS) (ln : Int) = ([], 70)) := Lib.hid (kid_past (by rw [HLN.out]; exact Nat.le_refl _))
    have HSIZ : Hid (n = sizK KS ln) := Lib.hid (by rw [hn, join_len]; unfold sizK; rw [HLN.out, List.take_length])
    have HDEP : Hid (deepA (joinL a X KS) = depK KS ln + 1) := Lib.hid (by rw [deep_join hR hRK]; unfold depK; rw [HLN.out, List.take_length])
    have HRR : Hid (rightB (joinL a X KS) = true) := Lib.hid ((right_iff _).2 hR)
    have HRK := Lib.hid hRK
    obtain ⟨TL, hTL⟩ : ∃ L, L = joinL a X KS := ⟨_, rfl⟩
    rw [← hTL] at hN hsm HPART HPAST HDEP HRR
    have HN3 := Lib.hid hN
    have HSM := Lib.hid hsm
    clear hn hR hRK hTL hN hsm
    have HW3 : Hid (∀ W, Below w3.heap.size w3 W → Below w.heap.size w W) := Lib.hid (fun W hW => HB3.out.trans (hW.mono HB3.out.size))
    go_wp2
    go_loopw [10, 11, 12] (fun sz dp i wr => ∃ k z d : Nat, k ≤ ln ∧ i = .int .i64 k ∧ sz = .int .i64 z ∧ dp = .int .i64 d ∧ z = sizK KS k ∧ d = depK KS k ∧ z ≤ 1 + 60 * k ∧ d ≤ 60 ∧ Below w3.heap.size w3 wr) (fun _ _ i _ => ln - (intOf i).toNat)
    case atStart => exact ⟨0, 1, 0, Nat.zero_le _, rfl, rfl, rfl, rfl, rfl, Nat.le_refl _, Nat.zero_le _, Below.refl _ _⟩
    case round =>
      obtain ⟨k, z, d, hk, rfl, rfl, rfl, hz, hd, hz1, hd1, hB⟩ := hrel
      have HB := Lib.hid hB
      have HZ := Lib.hid hz
      have HD := Lib.hid hd
      have hl4 : ln ≤ 4 := by have := HLN.out; have := HKL.out; omega
      clear hB hz hd
      by_cases hlt : k < ln
      · obtain ⟨K, hK⟩ : ∃ x, KS[k]? = some x := ⟨_, List.getElem?_eq_getElem (by rw [← HLN.out]; exact hlt)⟩
        have HK := Lib.hid hK
        have hmem := List.mem_of_getElem? hK
        have HKM := Lib.hid hmem
        have hKL := HK60.out K hmem
        have HRTK := Lib.hid (HRK.out K hmem)
        have HPK := Lib.hid (HPART.out k K hK)
        clear hK hmem
        go_wp2_with fail
        refine (pkid_c wr _ TL k (HN3.out.below HB.out) (fun x hx => by have := HSM.out x hx; omega) (fun x hx => by have := HSM.out x hx; omega) ad (HE.out.below (HW3.out _ HB.out))).mono ?_
        rintro e w4 ⟨hb4, ho4⟩
        rw [HPK.out] at ho4
        obtain ⟨q4, cap4, rfl, hN4⟩ := ho4.yes
        have HB4 := Lib.hid (HB.out.trans (hb4.mono HB.out.size))
        have HN4 := Lib.hid hN4
        obtain ⟨nk, hnk⟩ : ∃ n, n = K.length := ⟨_, rfl⟩
        rw [← hnk] at HN4 ⊢
        rw [← hnk] at hKL
        have HNK := Lib.hid hnk
        clear hb4 ho4 hN4 hnk
        obtain ⟨g, o, lc', hlv, hg, hcs⟩ := HL3.out.cells (by rw [← HLN.out]; omega)
        obtain rfl : la = some ⟨g, o, none⟩ := by injection hlv
        obtain ⟨u, hu, hNu⟩ := hcs k K HK.out
        obtain ⟨ua, uc, hform, _, _⟩ := hNu.form
        rw [← HNK.out] at hform
        subst hform
        have HU := Lib.hid hNu
        have e1 := (HB4.out.cell (p := ⟨g, o + k, none⟩) hg).trans hu
        have SM : Hid (∀ W z z', NL W z K → NL W z' K → Calls Tryd.prog 17 #[z, z'] W fun e W' => e = .returned (.bool true) ∧ Below W.heap.size W W') := Lib.hid (fun W z z' h h' => by have := same_c z z' K K W h h'; rw [decide_eq_true rfl] at this; exact this)
        have HCE : Hid (∀ W, Below w3.heap.size w3 W → W.cell? ⟨g, o + k, none⟩ = some (.slice ua nk uc)) := Lib.hid (fun W hW => (hW.cell (p := ⟨g, o + k, none⟩) hg).trans hu)
        clear hlv hcs hu hNu
        go_wp2_with fail
        refine (SM.out w4 _ _ HN4.out (HU.out.below HB4.out)).mono ?_
        rintro e w5 ⟨rfl, hb5⟩
        have HB5 := Lib.hid (HB4.out.trans (hb5.mono HB4.out.size))
        have e2 := HCE.out w5 HB5.out
        clear hb5 e1
        have hDK : deepA K ≤ 60 := by have := deepA_le HRTK.out; have := HNK.out; omega
        obtain ⟨dk, hdk⟩ : ∃ n, n = deepA K := ⟨_, rfl⟩
        have HDK := Lib.hid hdk
        have DP : Hid (∀ W z, NL W z K → Calls Tryd.prog 15 #[z] W fun e W' => e = .returned (.int .i64 (dk : Int)) ∧ Below W.heap.size W W') := Lib.hid (fun W z h => by rw [hdk]; exact pdeep_c W z K h (fun x hx => by have := HKS.out K HKM.out x hx; omega))
        rw [← hdk] at hDK
        clear hdk
        go_wp2_with fail
        refine (DP.out w5 _ (HU.out.below HB5.out)).mono ?_
        rintro e w6 ⟨rfl, hb6⟩
        have HB6 := Lib.hid (HB5.out.trans (hb6.mono HB5.out.size))
        clear hb6 e2
        go_wp2
        go_roundw
        case rel =>
          refine ⟨k + 1, z + nk, max d dk, by omega, by go_num, by go_num, ?_, ?_, ?_, by omega, by omega, HB6.out⟩
          · first | rfl | (congr 1; omega)
          · rw [siz_next HK.out, ← HZ.out, HNK.out]
          · rw [dep_next HK.out, ← HD.out, HDK.out]
        case measure => simp [intOf]; omega
      · obtain rfl : k = ln := by omega
        have hzn : n = z := by rw [HSIZ.out, HZ.out]
        have HDD : Hid (((deepA TL : Nat) : Int) = (d : Int) + 1) := Lib.hid (by rw [HDEP.out, ← HD.out]; rfl)
        subst hzn
        have KID : Hid (∀ W, EN W ad → NL W (.slice (some ⟨q, 0, none⟩) n cap) TL → Calls Tryd.prog 25 #[.slice (some ⟨q, 0, none⟩) n cap, .int .i64 (k : Int)] W fun e W' => Below W.heap.size W W' ∧ e = .returned (.tuple #[.slice none 0 0, .int .i64 70])) := Lib.hid (fun W h1 h2 => (pkid_c W _ TL k h2 (fun x hx => by have := HSM.out x hx; omega) (fun x hx => by have := HSM.out x hx; omega) ad h1).mono (by rintro e W' ⟨h1, h2⟩; rw [HPAST.out] at h2; exact ⟨h1, h2.no⟩))
        have RT : Hid (∀ W z, NL W z TL → Calls Tryd.prog 11 #[z] W fun e W' => e = .returned (.bool true) ∧ Below W.heap.size W W') := Lib.hid (fun W z h => by have := pright_c W z TL h (fun x hx => by have := HSM.out x hx; omega); rw [HRR.out] at this; exact this)
        have DT : Hid (∀ W z, NL W z TL → Calls Tryd.prog 15 #[z] W fun e W' => e = .returned (.int .i64 ((d : Int) + 1)) ∧ Below W.heap.size W W') := Lib.hid (fun W z h => by rw [← HDD.out]; exact pdeep_c W z TL h (fun x hx => by have := HSM.out x hx; omega))
        go_wp2_with fail
        refine (KID.out wr (HE.out.below (HW3.out _ HB.out)) (HN3.out.below HB.out)).mono ?_
        rintro e w4 ⟨hb4, rfl⟩
        have HB4 := Lib.hid (HB.out.trans (hb4.mono HB.out.size))
        clear hb4
        go_wp2_with fail
        refine (RT.out w4 _ (HN3.out.below HB4.out)).mono ?_
        rintro e w5 ⟨rfl, hb5⟩
        have HB5 := Lib.hid (HB4.out.trans (hb5.mono HB4.out.size))
        clear hb5
        go_wp2_with fail
        refine (DT.out w5 _ (HN3.out.below HB5.out)).mono ?_
        rintro e w6 ⟨rfl, hb6⟩
        have HB6 := Lib.hid (HW3.out _ (HB5.out.trans (hb6.mono HB5.out.size)))
        clear hb6
        go_wp2
        go_ret
        exact ⟨rfl, HB6.out⟩
  · go_wp2
    go_ret
    exact ⟨rfl, HB3.out⟩
end Go.Proofs.YtbegplfijjbpcaaDoor.No
