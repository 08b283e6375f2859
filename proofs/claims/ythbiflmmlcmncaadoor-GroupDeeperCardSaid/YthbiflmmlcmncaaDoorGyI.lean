/- The plain rune (by wip/gen/rs_base.py). The plain lexer: the first token. The plain lexer: a line's tokens. -/
import Derived.Test.YthbiflmmlcmncaaDoorRsStep2
import Derived.Test.YthbiflmmlcmncaaDoorRsStep3
import Derived.Test.YthbiflmmlcmncaaDoorRsStep4
import Derived.Lib.Strings
import Derived.Test.YthbiflmmlcmncaaDoorRsA
import Derived.Test.YthbiflmmlcmncaaDoorRsTab
import Derived.Deep.RegionWith
/- The plain rune (by wip/gen/rs_base.py). -/
namespace Go.Proofs.YthbiflmmlcmncaaDoor
namespace Rs.Rp
open Go Go.RowKit

/-- Step(s): HOW MANY BYTES THE RUNE HAS. -/
theorem rstep (w : World) (s : ByteArray) (hm : s.size ≤ 10000) :
    Calls Tryd.prog 54 #[.string s] w fun e W' => e = .returned (.int .i64 (stepOf s.data.toList : Int)) ∧ w = W' := by
  by_cases h0 : 0 < s.size
  · have hl : s.data.toList.length = s.size := (Lib.size_eq s).symm
    have hst : stepOf s.data.toList = if s.size < nOf s[0].toNat then 1 else match foldK s.data.toList (valOf s[0].toNat) (nOf s[0].toNat - 1) with
        | none => 1
        | some v => if 1 < nOf s[0].toNat ∧ badRune (leastOf s[0].toNat) v = true then 1 else nOf s[0].toNat := by
      unfold stepOf
      rw [byte_at s 0 h0, hl]
      rfl
    have hlt := s[0].toNat_lt
    by_cases c2 : 194 ≤ s[0].toNat ∧ s[0].toNat < 224
    · refine rstep_2 w s h0 hm c2.1 c2.2 _ ?_
      rw [hst]
      simp only [nOf, valOf, leastOf, if_pos c2]
      simp
      rfl
    by_cases c3 : 224 ≤ s[0].toNat ∧ s[0].toNat < 240
    · refine rstep_3 w s h0 hm c3.1 c3.2 _ ?_
      rw [hst]
      simp only [nOf, valOf, leastOf, if_neg c2, if_pos c3]
      simp
      rfl
    by_cases c4 : 240 ≤ s[0].toNat ∧ s[0].toNat < 245
    · refine rstep_4 w s h0 hm c4.1 c4.2 _ ?_
      rw [hst]
      simp only [nOf, valOf, leastOf, if_neg c2, if_neg c3, if_pos c4]
      simp
      rfl
    · have h1 : stepOf s.data.toList = 1 := by
        rw [hst]
        simp only [nOf, valOf, leastOf, if_neg c2, if_neg c3, if_neg c4]
        simp [foldK]
      rw [h1]
      by_cases hx : s[0].toNat < 194
      · exact rstep_low w s h0 hm hx
      · exact rstep_high w s h0 hm (by omega)
  · have e0 : s = ⟨#[]⟩ := by
      cases s with
      | mk d => exact congrArg ByteArray.mk (Array.size_eq_zero_iff.1 (by have : d.size = (ByteArray.mk d).size := rfl; omega))
    subst e0
    exact rstep_nil w
end Rs.Rp
end Go.Proofs.YthbiflmmlcmncaaDoor

/- The plain lexer: the first token. -/
namespace Go.Proofs.YthbiflmmlcmncaaDoor
namespace Rs
open Go Go.RowKit Go.Shelf
attribute [local go_sem] Oper.semAt_some

/-- How far a rune goes. -/
abbrev sp : List UInt8 → Nat := Rp.stepOf

/-- A call ends that tells a token, and that there is one. -/
theorem tok_ret2 {f : Func} {j i h : Nat} {R : Ending → World → Prop} {a : Act} {W : World} {t : Tk} {cs : Array Value} (hr : f.results = #[.cell j 31, .tmp i]) (ha : a.tmps[j]? = some (.pointer (some ⟨h, 0, none⟩))) (hb : a.tmps[i]? = some (.bool true)) (hd : a.defers = [])
    (hrow : Row W h 31 cs) (hc : cs = tokC t) (hR : R (.returned (.tuple #[tokV t, .bool true])) W) : bodyPost Tryd.prog f R Exit.ret a W := by
  subst hc
  have d0 := hrow.cell 0
  have d1 := hrow.cell 1
  have d2 := hrow.cell 2
  simp [tokC] at d0 d1 d2
  refine bodyPost_ret (v := .tuple #[tokV t, .bool true]) ?_ hd hR
  simp [results, hr, ha, hb, go_sem, d0, d1, d2, tokV]

theorem sp_le {T : List UInt8} (h : T ≠ []) : Rp.stepOf T ≤ T.length := by
  have hl : 0 < T.length := List.length_pos_iff.2 h
  unfold Rp.stepOf
  split
  · omega
  · split
    · omega
    · split
      · omega
      · split <;> omega
theorem sp_pos {T : List UInt8} (h : T ≠ []) : 1 ≤ Rp.stepOf T := by
  have hl : 0 < T.length := List.length_pos_iff.2 h
  unfold Rp.stepOf
  split
  · rename_i h0
    rw [List.getElem?_eq_none_iff] at h0
    omega
  · split
    · exact Nat.le_refl _
    · split
      · exact Nat.le_refl _
      · split
        · exact Nat.le_refl _
        · unfold Rp.nOf; (repeat' split) <;> omega

set_option maxRecDepth 100000 in
set_option maxHeartbeats 8000000 in
theorem first_c (T : List UInt8) (hT : T.length ≤ 10000) (h0 : T ≠ []) (w : World) :
    Calls Tryd.prog 37 #[.string (bs T)] w fun e W' => e = .returned (.tuple #[tokV (tk1 sp T), .bool true]) ∧ Below w.heap.size w W' := by
  have hl : 0 < T.length := List.length_pos_iff.2 h0
  obtain ⟨b0, hb0⟩ : ∃ b, T.head? = some b := ⟨_, List.head?_eq_some_head h0⟩
  have hF := rfirst_c T hT
  have hC := rclass_c (optG (firstK T))
  have hBl := blanks_c (bs T) (by rw [bs_size]; exact hT)
  have hQ := quoted_c (bs T) (by rw [bs_size]; exact hl) (by rw [bs_size]; exact hT)
  have hN := fun n hn => number_c T n hT hn
  have hD := isDigit_c b0
  have hW := word_c (bs T) (by rw [bs_size]; exact hT)
  have hS := fun w => Rp.rstep w (bs T) (by rw [bs_size]; exact hT)
  rw [bs_list] at hBl hQ hW hS
  have hcls : cls (optG (firstK T)) = clsT T := by rw [← cls_glT]; rfl
  rw [hcls] at hC
  obtain ⟨X, hX⟩ : ∃ X, X = tk1 sp T := ⟨_, rfl⟩
  rw [← hX]
  obtain ⟨s, hs⟩ : ∃ s, s = bs T := ⟨_, rfl⟩
  have hgl : bs (optG (firstK T)) = bs (glT T) := by rw [glT_eq]
  obtain ⟨G, hG⟩ : ∃ G, G = bs (glT T) := ⟨_, rfl⟩
  rw [hgl, ← hG] at hF hC
  rw [← hs] at hF hBl hQ hN hW hS ⊢
  have HB : Hid (¬ nOf isB T = 0 → tokC X = #[.int .i64 1, .string (s.extract 0 (nOf isB T)), .string ⟨#[]⟩]) := Lib.hid (fun h => by rw [hX, first_B sp h, hs, ext_take]; rfl)
  have HR6 : Hid (nOf isB T = 0 → clsT T = 6 → tokC X = #[.int .i64 2, .string s, .string G]) := Lib.hid (fun h h2 => by rw [hX, first_R sp h h2, hs, hG]; rfl)
  have HQ0 : Hid (nOf isB T = 0 → ¬ clsT T = 6 → b0 = 39 → qN (qs (T.drop 1)) = 0 → tokC X = #[.int .i64 10, .string s, .string ⟨#[]⟩]) := Lib.hid (fun h h2 h3 h4 => by rw [hX, first_Q0 sp h h2 (by rw [hb0, h3]) h4, hs]; rfl)
  have HQ1 : Hid (nOf isB T = 0 → ¬ clsT T = 6 → b0 = 39 → ¬ qN (qs (T.drop 1)) = 0 → tokC X = #[.int .i64 4, .string (s.extract 0 (qN (qs (T.drop 1)))), .string ⟨#[]⟩]) := Lib.hid (fun h h2 h3 h4 => by rw [hX, first_Q sp h h2 (by rw [hb0, h3]) h4, hs, ext_take]; rfl)
  have h39 : ¬ b0 = 39 → ¬ T.head? = some 39 := fun h e => h (by rw [hb0] at e; exact Option.some.inj e)
  have HM5 : Hid (nOf isB T = 0 → ¬ clsT T = 6 → ¬ b0 = 39 → clsT T = 5 → numT T (fsz T) = X) := Lib.hid (fun h h2 h3 h4 => by rw [hX, first_M sp h h2 (h39 h3) h4])
  have hdd : ¬ isD b0 = true → nOf isD T = 0 := fun h => nOf_zero.2 (fun b hb => by rw [hb0] at hb; cases hb; simpa using h)
  have HD0 : Hid (nOf isB T = 0 → ¬ clsT T = 6 → ¬ b0 = 39 → ¬ clsT T = 5 → isD b0 = true → numT T 0 = X) := Lib.hid (fun h h2 h3 h4 h5 => by rw [hX, first_D sp h h2 (h39 h3) h4 (by have := nOf_pos hb0 h5; omega)])
  have HW2 : Hid (nOf isB T = 0 → ¬ clsT T = 6 → ¬ b0 = 39 → ¬ clsT T = 5 → ¬ isD b0 = true → 20 < wordN T → tokC X = #[.int .i64 10, .string (s.extract 0 (wordN T)), .string ⟨#[]⟩]) := Lib.hid (fun h h2 h3 h4 h5 h6 => by rw [hX, first_W sp h h2 (h39 h3) h4 (hdd h5) (by omega), if_pos h6, hs, ext_take]; rfl)
  have HW1 : Hid (nOf isB T = 0 → ¬ clsT T = 6 → ¬ b0 = 39 → ¬ clsT T = 5 → ¬ isD b0 = true → ¬ 20 < wordN T → 0 < wordN T → tokC X = #[.int .i64 5, .string (s.extract 0 (wordN T)), .string ⟨#[]⟩]) := Lib.hid (fun h h2 h3 h4 h5 h6 h7 => by rw [hX, first_W sp h h2 (h39 h3) h4 (hdd h5) (by omega), if_neg h6, hs, ext_take]; rfl)
  have HS1 : Hid (nOf isB T = 0 → ¬ clsT T = 6 → ¬ b0 = 39 → ¬ clsT T = 5 → ¬ isD b0 = true → ¬ 0 < wordN T → 0 < fsz T → (∀ W, Calls Tryd.prog 53 #[.int .i64 (clsT T : Int)] W fun e W' => e = .returned (.int .i64 ((X.kind : Nat) : Int)) ∧ W' = W) ∧ tokC X = #[.int .i64 ((X.kind : Nat) : Int), .string (s.extract 0 (fsz T)), .string G]) := Lib.hid (fun h h2 h3 h4 h5 h6 h7 => by
    obtain ⟨e1, e2, e3⟩ := first_S sp h h2 (h39 h3) h4 (hdd h5) (by omega) (by omega : ¬ fsz T = 0)
    refine ⟨fun W => ?_, ?_⟩
    · rw [hX, e1]; exact kind_c _ e3 e2 W
    · rw [hX, e1, hs, ext_take, hG]; rfl)
  have HO1 : Hid (nOf isB T = 0 → ¬ clsT T = 6 → ¬ b0 = 39 → ¬ clsT T = 5 → ¬ isD b0 = true → ¬ 0 < wordN T → ¬ 0 < fsz T → tokC X = #[.int .i64 10, .string (s.extract 0 (Rp.stepOf T)), .string ⟨#[]⟩]) := Lib.hid (fun h h2 h3 h4 h5 h6 h7 => by rw [hX, first_O sp h h2 (h39 h3) h4 (hdd h5) (by omega) (by omega), hs, ext_take]; rfl)
  have hsz : s.size = T.length := by rw [hs, bs_size]
  have l1 : nOf isB T ≤ s.size := by rw [hsz]; exact nOf_le _ _
  have l2 : qN (qs (T.drop 1)) ≤ s.size := by
    rw [hsz]
    cases hh : qs (T.drop 1) with
    | none => exact Nat.zero_le _
    | some n => have := (qs_le _ _ hh).2; rw [List.length_drop] at this; show n + 1 ≤ _; omega
  have l3 : fsz T ≤ s.size := by rw [hsz]; exact fsz_le T
  have l4 : wordN T ≤ s.size := by rw [hsz]; unfold wordN; split; exact Nat.zero_le _; exact nOf_le _ _
  have l5 : Rp.stepOf T ≤ s.size := by rw [hsz]; exact sp_le h0
  have hN1 := hN (fsz T) (fsz_le T)
  have hN2 := hN 0 (Nat.zero_le _)
  change ∀ w, Calls Tryd.prog _ #[_, .int .i64 0] w _ at hN2
  have hs1 : s.size ≤ 10000 := by omega
  have hs0 : 0 < s.size := by omega
  have hbyte : s[0]'hs0 = b0 := by
    have e := byte_at s 0 hs0
    have e2 : s.data.toList = T := by rw [hs, bs_list]
    rw [e2, ← List.head?_eq_getElem?, hb0] at e
    simpa using e.symm
  have hne : s.toList.isEmpty = false := Rp.nonempty s hs0
  have hne2 : ¬ s.toList = [] := fun e => by rw [e] at hne; cases hne
  obtain ⟨nB, hnB⟩ : ∃ n, n = nOf isB T := ⟨_, rfl⟩
  obtain ⟨cT, hcT⟩ : ∃ n, n = clsT T := ⟨_, rfl⟩
  obtain ⟨qT, hqT⟩ : ∃ n, n = qN (qs (T.drop 1)) := ⟨_, rfl⟩
  obtain ⟨fT, hfT⟩ : ∃ n, n = fsz T := ⟨_, rfl⟩
  obtain ⟨wT, hwT⟩ : ∃ n, n = wordN T := ⟨_, rfl⟩
  obtain ⟨oT, hoT⟩ : ∃ n, n = Rp.stepOf T := ⟨_, rfl⟩
  rw [← hnB] at HB HR6 HQ0 HQ1 HM5 HD0 HW2 HW1 HS1 HO1 l1 hBl
  rw [← hcT] at HR6 HQ0 HQ1 HM5 HD0 HW2 HW1 HS1 HO1 hC
  rw [← hqT] at HQ0 HQ1 l2 hQ
  rw [← hfT] at HM5 HS1 HO1 l3 hF hN1
  rw [← hwT] at HW2 HW1 HS1 HO1 l4 hW
  rw [← hoT] at HO1 l5 hS
  have hd1 := hD
  obtain ⟨W0, hW0⟩ : ∃ W0, W0 = w.alloc (.cells #[.int .i64 0, .string ⟨#[]⟩, .string ⟨#[]⟩] 31) := ⟨_, rfl⟩
  have r0 : Row W0 w.heap.size 31 #[.int .i64 0, .string ⟨#[]⟩, .string ⟨#[]⟩] := by rw [hW0]; exact Row.new _ _ _
  have hB0 : Below w.heap.size w W0 := by rw [hW0]; exact (Below.refl _ w).alloc (Nat.le_refl _) _
  have RW : Hid (∀ W, Below W0.heap.size W0 W → Row W w.heap.size 31 #[.int .i64 0, .string ⟨#[]⟩, .string ⟨#[]⟩] ∧ ∀ x y z, Below w.heap.size w (((W.setCell ⟨w.heap.size, 0, none⟩ x).setCell ⟨w.heap.size, 1, none⟩ y).setCell ⟨w.heap.size, 2, none⟩ z)) := Lib.hid (fun W hW => ⟨r0.below hW r0.lt, fun x y z => below_set3 (hB0.trans (hW.mono hB0.size)) _ _ _ (Nat.le_refl _) (Nat.le_refl _) (Nat.le_refl _) x y z⟩)
  have HF := Lib.hid hF
  have HC := Lib.hid hC
  have HBl := Lib.hid hBl
  have HQ := Lib.hid hQ
  have HN1 := Lib.hid hN1
  have HN2 := Lib.hid hN2
  have HD := Lib.hid hd1
  have HW := Lib.hid hW
  have HS := Lib.hid hS
  clear hF hC hBl hQ hN hN1 hN2 hD hd1 hW hS hnB hcT hqT hfT hwT hoT hX hs hG hgl hcls hb0 h39 hdd r0 hB0 h0 hl hT hsz
  go_enter Tryd.func37, Tryd.ntmps37
  go_wp2_with fail
  rw [← hW0]
  clear hW0
  refine (HF.out W0).mono ?_
  rintro e w1 ⟨rfl, hb1⟩
  go_wp2_with fail
  refine (HC.out w1).mono ?_
  rintro e w2 ⟨rfl, hb2⟩
  have hb3 := hb1.trans (hb2.mono hb1.size)
  obtain ⟨r2, B3⟩ := RW.out w2 hb3
  obtain ⟨d0, d1, d2, g0, g1, g2⟩ := tok_cells r2
  have HR2 := Lib.hid r2
  have HB3 := Lib.hid B3
  have Hb3 := Lib.hid hb3
  clear r2 B3 hb1 hb2 hb3
  go_wp2_with fail
  refine (HBl.out w2).mono ?_
  rintro e w3 ⟨rfl, hw3⟩
  obtain rfl := hw3.symm
  clear hw3
  by_cases hb : nB = 0
  · have u1 : ¬ 0 < nB := by omega
    by_cases h6 : cT = 6
    · have t6 : ((cT : Int) == 6) = true := by simp; omega
      have HE := Lib.hid (HR6.out hb h6)
      clear hb h6
      go_wp2_with fail
      exact tok_ret2 (j := 2) (i := 3) rfl rfl rfl rfl (tok_set HR2.out _ _ _) HE.out.symm ⟨rfl, HB3.out _ _ _⟩
    · have t6 : ((cT : Int) == 6) = false := by simp; omega
      by_cases h39 : b0 = 39
      · have v39 : ((b0.toNat : Int) == 39) = true := by rw [h39]; rfl
        go_wp2_with fail
        refine (HQ.out w2).mono ?_
        rintro e w3 ⟨rfl, hw3⟩
        obtain rfl := hw3.symm
        clear hw3
        by_cases hq : qT = 0
        · have z : ((qT : Int) == 0) = true := by simp; omega
          have HE := Lib.hid (HQ0.out hb h6 h39 hq)
          clear hb h6 h39 hq
          go_wp2_with fail
          exact tok_ret2 (j := 2) (i := 3) rfl rfl rfl rfl (tok_set HR2.out _ _ _) HE.out.symm ⟨rfl, HB3.out _ _ _⟩
        · have z : ((qT : Int) == 0) = false := by simp; omega
          have HE := Lib.hid (HQ1.out hb h6 h39 hq)
          clear hb h6 h39 hq
          go_wp2_with fail
          refine (HQ.out w2).mono ?_
          rintro e w3 ⟨rfl, hw3⟩
          obtain rfl := hw3.symm
          clear hw3
          go_wp2_with fail
          exact tok_ret2 (j := 2) (i := 3) rfl rfl rfl rfl (tok_set HR2.out _ _ _) HE.out.symm ⟨rfl, HB3.out _ _ _⟩
      · have v39 : ((b0.toNat : Int) == 39) = false := by
          simp only [beq_eq_false_iff_ne, ne_eq]
          intro e
          exact h39 (UInt8.toNat_inj.1 (by show b0.toNat = 39; omega))
        by_cases h5 : cT = 5
        · have t5 : ((cT : Int) == 5) = true := by simp; omega
          have hn := HN1.out w2
          rw [HM5.out hb h6 h39 h5] at hn
          dsimp only [tokV] at hn
          have HN := Lib.hid hn
          clear hn
          clear hb h6 h39 h5
          go_wp2_with fail
          refine HN.out.mono ?_
          rintro e w4 ⟨rfl, hb4⟩
          obtain ⟨r4, B4⟩ := RW.out w4 (Hb3.out.trans (hb4.mono Hb3.out.size))
          obtain ⟨e0, e1, e2, f0, f1, f2⟩ := tok_cells r4
          have HR4 := Lib.hid r4
          have HB4 := Lib.hid B4
          clear r4 B4 hb4
          go_wp2_with fail
          exact tok_ret2 (j := 2) (i := 3) rfl rfl rfl rfl (tok_set HR4.out _ _ _) rfl ⟨rfl, HB4.out _ _ _⟩
        · have t5 : ((cT : Int) == 5) = false := by simp; omega
          by_cases hd : isD b0 = true
          · have hdc := HD.out w2
            rw [hd] at hdc
            have HDC := Lib.hid hdc
            have hn := HN2.out w2
            rw [HD0.out hb h6 h39 h5 hd] at hn
            dsimp only [tokV] at hn
            have HN := Lib.hid hn
            clear hn
            clear hdc hb h6 h39 h5 hd
            go_wp2_with fail
            refine HDC.out.mono ?_
            rintro e w3 ⟨rfl, hw3⟩
            obtain rfl := hw3.symm
            clear hw3
            go_wp2_with fail
            refine HN.out.mono ?_
            rintro e w4 ⟨rfl, hb4⟩
            obtain ⟨r4, B4⟩ := RW.out w4 (Hb3.out.trans (hb4.mono Hb3.out.size))
            obtain ⟨e0, e1, e2, f0, f1, f2⟩ := tok_cells r4
            have HR4 := Lib.hid r4
            have HB4 := Lib.hid B4
            clear r4 B4 hb4
            go_wp2_with fail
            exact tok_ret2 (j := 2) (i := 3) rfl rfl rfl rfl (tok_set HR4.out _ _ _) rfl ⟨rfl, HB4.out _ _ _⟩
          · have HDF : Hid (isD b0 = false) := Lib.hid (by simpa using hd)
            have hdc := HD.out w2
            rw [HDF.out] at hdc
            have HDC := Lib.hid hdc
            clear hdc
            go_wp2_with fail
            refine (HDC.out).mono ?_
            rintro e w3 ⟨rfl, hw3⟩
            obtain rfl := hw3.symm
            clear hw3
            go_wp2_with fail
            refine (HW.out w2).mono ?_
            rintro e w3 ⟨rfl, hw3⟩
            obtain rfl := hw3.symm
            clear hw3
            by_cases hw20 : 20 < wT
            · have v4 : decide ((20 : Int) < (wT : Int)) = true := by simp; omega
              have HE := Lib.hid (HW2.out hb h6 h39 h5 hd hw20)
              clear hb h6 h39 h5 hd hw20
              go_wp2_with fail
              refine (HW.out w2).mono ?_
              rintro e w3 ⟨rfl, hw3⟩
              obtain rfl := hw3.symm
              clear hw3
              go_wp2_with fail
              exact tok_ret2 (j := 2) (i := 3) rfl rfl rfl rfl (tok_set HR2.out _ _ _) HE.out.symm ⟨rfl, HB3.out _ _ _⟩
            · have v4 : decide ((20 : Int) < (wT : Int)) = false := by simp; omega
              go_wp2_with fail
              refine (HW.out w2).mono ?_
              rintro e w3 ⟨rfl, hw3⟩
              obtain rfl := hw3.symm
              clear hw3
              by_cases hw0 : 0 < wT
              · have u3 : 0 < wT := hw0
                have HE := Lib.hid (HW1.out hb h6 h39 h5 hd hw20 hw0)
                clear hb h6 h39 h5 hd hw20
                go_wp2_with fail
                refine (HW.out w2).mono ?_
                rintro e w3 ⟨rfl, hw3⟩
                obtain rfl := hw3.symm
                clear hw3
                go_wp2_with fail
                exact tok_ret2 (j := 2) (i := 3) rfl rfl rfl rfl (tok_set HR2.out _ _ _) HE.out.symm ⟨rfl, HB3.out _ _ _⟩
              · have u3 : ¬ 0 < wT := hw0
                by_cases hf : 0 < fT
                · obtain ⟨hk, hx⟩ := HS1.out hb h6 h39 h5 hd hw0 hf
                  have HE := Lib.hid hx
                  have HK := Lib.hid hk
                  clear hk hx hb h6 h39 h5 hd hw0 hw20
                  go_wp2_with fail
                  go_region_with (go_at_call 53; refine (HK.out _).mono ?_; rintro e w3 ⟨rfl, rfl⟩)
                  all_goals
                    go_wp2_with fail
                    exact tok_ret2 (j := 2) (i := 3) rfl rfl rfl rfl (tok_set HR2.out.drew _ _ _) HE.out.symm ⟨rfl, (RW.out w2.drew Hb3.out.drew).2 _ _ _⟩
                · have u2 : ¬ 0 < fT := hf
                  have HE := Lib.hid (HO1.out hb h6 h39 h5 hd hw0 hf)
                  clear hb h6 h39 h5 hd hw0 hf hw20
                  go_wp2_with fail
                  refine (HS.out w2).mono ?_
                  rintro e w3 ⟨rfl, hw3⟩
                  obtain rfl := hw3
                  go_wp2_with fail
                  exact tok_ret2 (j := 2) (i := 3) rfl rfl rfl rfl (tok_set HR2.out _ _ _) HE.out.symm ⟨rfl, HB3.out _ _ _⟩
  · have u1 : 0 < nB := by omega
    have HE := Lib.hid (HB.out hb)
    clear hb
    go_wp2_with fail
    refine (HBl.out w2).mono ?_
    rintro e w3 ⟨rfl, hw3⟩
    obtain rfl := hw3.symm
    clear hw3
    go_wp2_with fail
    exact tok_ret2 (j := 2) (i := 3) rfl rfl rfl rfl (tok_set HR2.out _ _ _) HE.out.symm ⟨rfl, HB3.out _ _ _⟩
end Rs
end Go.Proofs.YthbiflmmlcmncaaDoor

/- The plain lexer: a line's tokens. -/
namespace Go.Proofs.YthbiflmmlcmncaaDoor
namespace Rs
open Go Go.RowKit Go.Shelf
attribute [local go_sem] Oper.semAt_some

theorem own_keep {base : Nat} {t : TypeId} {sz : Nat} {X Y : World} {v : Value} {k : Nat} {xs : List Value} (h : X.ownsRow base t sz v k xs) (hb : Below X.heap.size X Y) : Y.ownsRow base t sz v k xs := by
  refine ⟨h.1, ?_⟩
  rcases h.2 with hn | ⟨g, cap, cur, e1, e2, e3, e4⟩
  · exact .inl hn
  · exact .inr ⟨g, cap, cur, e1, e2, (hb.block g (Array.getElem?_eq_some_iff.1 e3).1).trans e3, e4⟩
theorem sp_bounds (T : List UInt8) (h : T ≠ []) : 1 ≤ sp T ∧ sp T ≤ T.length := ⟨sp_pos h, sp_le h⟩

set_option maxRecDepth 100000 in
set_option maxHeartbeats 4000000 in
/-- Line(s): ITS TOKENS. -/
theorem rline_c (T : List UInt8) (hT : T.length ≤ 10000) (w : World) :
    Calls Tryd.prog 25 #[.string (bs T)] w fun e W' => ∃ v, e = .returned v ∧ OwnL W' w.heap.size v (toks sp T 0) ∧ Below w.heap.size w W' := by
  obtain ⟨i0, hi, hz0, hz1, hz2⟩ := info_tok
  obtain ⟨s0, hs0⟩ : ∃ s, s = bs T := ⟨_, rfl⟩
  rw [← hs0]
  have HS0 := Lib.hid hs0
  clear hs0
  go_enter Tryd.func25, Tryd.ntmps25
  go_wp2
  go_loopw [0, 3] (fun sv u wr => ∃ (R : List UInt8) (P : List Tk), sv = .string (bs R) ∧ R.length ≤ T.length ∧ P.length + R.length ≤ T.length ∧ toks sp T 0 = P ++ toks sp R 0 ∧ OwnL wr w.heap.size u P ∧ Below w.heap.size w wr)
    (fun sv _ _ => strLen sv)
  case atStart => exact ⟨T, [], by rw [HS0.out], Nat.le_refl _, by simp, rfl, World.ownsRow_nil _ _ _ _, Below.refl _ _⟩
  case round =>
    obtain ⟨R, P, rfl, hRl, hPR, htk, hown, hb0⟩ := hrel
    have HO := Lib.hid hown
    have HB0 := Lib.hid hb0
    have HTK := Lib.hid htk
    clear hown hb0 htk
    by_cases hR : R = []
    · subst hR
      have HE : Hid (OwnL wr w.heap.size u3 (toks sp T 0)) := Lib.hid (by rw [HTK.out, toks_nil, List.append_nil]; exact HO.out)
      have hne : (bs []).toList.isEmpty = true := by decide +kernel
      have hne2 : (bs []).toList = [] := by decide +kernel
      go_wp2
      go_ret
      exact ⟨_, rfl, HE.out, HB0.out⟩
    · have hcons := toks_cons sp sp_bounds hR
      obtain ⟨hl1, hl2, hl3⟩ := tk1_len sp sp_bounds hR
      have hF := first_c R (by omega) hR
      dsimp only [tokV] at hF
      obtain ⟨X, hX⟩ : ∃ X, X = tk1 sp R := ⟨_, rfl⟩
      rw [← hX] at hF hcons hl1 hl2
      obtain ⟨kd, hkd⟩ : ∃ kd : Int, kd = ((X.kind : Nat) : Int) := ⟨_, rfl⟩
      obtain ⟨U, hU⟩ : ∃ U, U = bs X.text := ⟨_, rfl⟩
      obtain ⟨G, hG⟩ : ∃ G, G = bs X.glyph := ⟨_, rfl⟩
      rw [← hkd, ← hU, ← hG] at hF
      obtain ⟨n, hn⟩ : ∃ n, n = U.size := ⟨_, rfl⟩
      have hnl : n = X.text.length := by rw [hn, hU, bs_size]
      have htl : tokL X = [.int .i64 kd, .string U, .string G] := by rw [hkd, hU, hG]; rfl
      obtain ⟨s, hs⟩ : ∃ s, s = bs R := ⟨_, rfl⟩
      have hsz : s.size = R.length := by rw [hs, bs_size]
      have hx1 : s.extract n s.size = bs (R.drop n) := by rw [hs, ext_drop]
      have hne : s.toList.isEmpty = false := Rp.nonempty s (by omega)
      have hne2 : ¬ s.toList = [] := fun e => by rw [e] at hne; cases hne
      rw [← hs] at hF ⊢
      have hU1 : U.size ≤ s.size := by omega
      have hs1 : s.size ≤ 10000 := by omega
      have hPl : P.length + 1 ≤ 10001 := by omega
      have HF := Lib.hid hF
      have HTL := Lib.hid htl
      have HN : Hid ((R.drop n).length ≤ T.length ∧ (P ++ [X]).length + (R.drop n).length ≤ T.length ∧ toks sp T 0 = (P ++ [X]) ++ toks sp (R.drop n) 0) := Lib.hid (by
        refine ⟨by rw [List.length_drop]; omega, by rw [List.length_drop, List.length_append, List.length_singleton]; omega, ?_⟩
        rw [HTK.out, hcons, ← hnl, List.append_assoc]
        rfl)
      have HX1 : Hid (s.extract U.size s.size = bs (R.drop n)) := Lib.hid (by rw [← hn]; exact hx1)
      have HM : Hid (strLen (.string (bs (R.drop n))) < strLen (.string s)) := Lib.hid (by simp only [strLen, bs_size, List.length_drop]; omega)
      have HONE : Hid (∀ u ∈ [Value.int .i64 kd, .string U, .string G], u.oneCell' = true) := Lib.hid (by intro u hu; simp at hu; rcases hu with rfl | rfl | rfl <;> rfl)
      have HLEN : Hid (P.length + 1 ≤ maxLen ∧ (P.length + 1) * 40 ≤ 140737488355328) := Lib.hid ⟨by unfold maxLen; omega, by omega⟩
      have hb0s := HB0.out.size
      clear hF htl hx1 hcons hl1 hl2 hl3 hX hkd hU hG hn hnl hs hsz
      go_wp2_with fail
      refine (HF.out wr).mono ?_
      rintro e w1 ⟨rfl, hb1⟩
      have HO1 := Lib.hid (own_keep HO.out hb1)
      have HB1 := Lib.hid (HB0.out.trans (hb1.mono hb0s))
      have hs1b := HB1.out.size
      clear hb1
      obtain ⟨C, hC⟩ : ∃ C, C = Obj.cells #[.int .i64 kd, .string U, .string G] 31 := ⟨_, rfl⟩
      have HO3 := Lib.hid ((HO1.out.alloc (.cells #[.int .i64 kd, .string U, .string G] 31)).alloc (.cells #[.int .i64 kd, .string U, .string G] 31))
      have hnw := World.news_of_block (World.alloc_heap_new (w1.alloc (.cells #[.int .i64 kd, .string U, .string G] 31)) (.cells #[.int .i64 kd, .string U, .string G] 31))
      rw [World.size_alloc] at hnw
      have HNW := Lib.hid hnw
      clear hnw
      have HB3 : Hid (Below w.heap.size w ((w1.alloc (.cells #[.int .i64 kd, .string U, .string G] 31)).alloc (.cells #[.int .i64 kd, .string U, .string G] 31))) := Lib.hid ((HB1.out.alloc hs1b _).alloc (by simp; omega) _)
      have rX : Row ((w1.alloc (.cells #[.int .i64 kd, .string U, .string G] 31)).alloc (.cells #[.int .i64 kd, .string U, .string G] 31)) w1.heap.size 31 #[.int .i64 kd, .string U, .string G] := (Row.new _ _ _).alloc _
      have RX := Lib.hid rX
      clear rX hC
      go_wp2_with (at_builtin; refine wpList_append_lies _ rfl (.tmp 13) (.tmp 15) 22 rfl w.heap.size 31 i0 (.agg #[.int .i64 0, .string ⟨#[]⟩, .string ⟨#[]⟩]) 3 40 Tryd.underlying22 hi hz0 hz1 hz2 rfl (by decide) u3 P.length (cellsL P) rfl HO3.out ⟨w1.heap.size + 1, 0, none⟩ 1 1 [.int .i64 kd, .string U, .string G] rfl rfl HNW.out HONE.out (by decide) HLEN.out.1 HLEN.out.2 HB3.out.size _ rfl ?_; intro g3 cap3 w4 hown4 hgrow4 _ _; have HO4 := Lib.hid hown4; have HB4 := Lib.hid (HB3.out.grown hgrow4 HB3.out.size (fun j ej => (HO3.out.lt j ej).1)); have hX1 : w4.cell? ⟨w1.heap.size, 1, none⟩ = some (.string U) := (hgrow4.cell_far ⟨w1.heap.size, 1, none⟩ (by rw [World.size_alloc, World.size_alloc]; exact Nat.lt_succ_of_lt (Nat.lt_succ_self _)) (fun e => Nat.lt_irrefl _ (HO1.out.lt _ e.symm).2)).trans (by rw [RX.out.cell]; rfl); clear hown4 hgrow4)
      go_roundw
      case rel =>
        refine ⟨R.drop n, P ++ [X], by rw [HX1.out], HN.out.1, HN.out.2.1, HN.out.2.2, ?_, HB4.out⟩
        show World.ownsRow _ _ _ _ _ _ _
        rw [cellsL_snoc, HTL.out, List.length_append, List.length_singleton]
        exact HO4.out
      case measure =>
        rw [HX1.out]
        exact HM.out
end Rs
end Go.Proofs.YthbiflmmlcmncaaDoor
