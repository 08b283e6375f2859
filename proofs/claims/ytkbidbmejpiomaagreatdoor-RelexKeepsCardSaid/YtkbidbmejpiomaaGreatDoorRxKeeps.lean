/- The statement RelexKeeps, as a call. -/
import Derived.Test.YtkbidbmejpiomaaGreatDoorRyF
import Derived.BigQuiet
import Derived.Deep.QuietTactic
namespace Go.Proofs.YtkbidbmejpiomaaGreatDoor
open Go Go.RowKit Go.Shelf
attribute [local go_sem] Oper.semAt_some

theorem lines_ahead (T : List UInt8) (a n : Nat) (s : List UInt8) (h : a + n ≤ T.length) (i : Nat) (hi : i < frL T a) : (splitL (splT T a n s))[i]? = (splitL T)[i]? := by
  have hl := frL_lt T (show a ≤ T.length by omega)
  rw [splT_lines T a n s h, List.append_assoc, List.getElem?_append_left (by rw [List.length_take]; omega), List.getElem?_take, if_pos hi]
theorem lines_behind (T : List UInt8) (a n : Nat) (s : List UInt8) (h : a + n ≤ T.length) (i : Nat) (hi : frL T a + olL T a n ≤ i) : (splitL (splT T a n s))[i - olL T a n + (s.count 10 + 1)]? = (splitL T)[i]? := by
  have hl := frL_lt T (show a ≤ T.length by omega)
  have hm := midT_len T a n s h
  have h1 : ((splitL T).take (frL T a)).length = frL T a := by rw [List.length_take]; omega
  rw [splT_lines T a n s h, List.getElem?_append_right (by rw [List.length_append, h1, hm]; omega), List.length_append, h1, hm, List.getElem?_drop]
  congr 1
  omega
theorem lines_count (T : List UInt8) (a n : Nat) (s : List UInt8) (h : a + n ≤ T.length) : frL T a + olL T a n ≤ (splitL T).length ∧ (splitL (splT T a n s)).length = (splitL T).length - olL T a n + (s.count 10 + 1) := by
  have hl := frL_lt T h
  have hmo := frL_mono T (show a ≤ a + n by omega) h
  have ho : frL T a + olL T a n ≤ (splitL T).length := by unfold olL; omega
  refine ⟨ho, ?_⟩
  rw [splT_lines T a n s h, List.length_append, List.length_append, midT_len T a n s h, List.length_take, List.length_drop]
  omega
theorem linT_at {T : List UInt8} {k : Nat} {y : List UInt8} (h : (splitL T)[k]? = some y) : linT T (k : Int) = toks st y 0 := by
  have hk := (List.getElem?_eq_some_iff.1 h).1
  unfold linT
  rw [if_pos (by omega), Int.toNat_natCast, List.getD_eq_getElem?_getD, h]
  rfl
theorem linT_len {T : List UInt8} (h : T.length ≤ 4000) (i : Int) : (linT T i).length ≤ maxLen := by
  by_cases hi : 0 ≤ i ∧ i < (splitL T).length
  · obtain ⟨k, rfl⟩ : ∃ k : Nat, i = k := ⟨i.toNat, by omega⟩
    have hk : k < (splitL T).length := by omega
    have hy : (splitL T)[k]? = some (splitL T)[k] := List.getElem?_eq_getElem hk
    rw [linT_at hy]
    have h1 := toks_len st st_ok _ (splitL T)[k] (Nat.le_refl _)
    have h2 := take_at (splitL T) k _ _ hy (Nat.le_refl _)
    have h3 := congrArg List.length h2
    rw [join_split, List.take_length] at h3
    have h4 : ((splitL T)[k]).length ≤ (joinL ((splitL T).take k ++ [(splitL T)[k]])).length := by
      cases h5 : (splitL T).take k with
      | nil => simp [joinL]
      | cons a A => rw [joinL_app _ _ (by simp) (by simp)]; simp [joinL]; omega
    rw [List.length_take] at h3
    unfold maxLen
    omega
  · unfold linT
    rw [if_neg hi]
    exact Nat.zero_le _

set_option maxRecDepth 100000 in
set_option maxHeartbeats 4000000 in
theorem keeps_full (w : World) (hG : RG w.heap.size w) (x : ByteArray) (a m : Int) (y : ByteArray) (h : 4000 < (cut x).size) :
    Calls Tryz.prog 5 #[.string x, .int .i64 a, .int .i64 m, .string y] w fun e W' => e = .returned (.bool true) ∧ Below w.heap.size w W' := by
  have HSH := Lib.hid (shown_c w hG)
  have HNF := Lib.hid (fun W1 (hb : Below w.heap.size w W1) => new_full W1 (hG.below hb (Nat.le_refl _)).here (cut x) h)
  clear hG h
  go_enter Tryz.func5, Tryz.ntmps5
  go_wp2_with fail
  refine HSH.out.mono ?_
  rintro e w1 ⟨rfl, hb1⟩
  have B1 := Lib.hid hb1
  clear hb1
  go_wp2_with fail
  refine (cut_any _ x).mono ?_
  rintro e w2 ⟨rfl, rfl⟩
  go_wp2_with fail
  refine (HNF.out _ B1.out).mono ?_
  rintro e w2 ⟨rfl, hb2⟩
  have B2 := Lib.hid (B1.out.trans (hb2.mono B1.out.size))
  clear hb2
  go_wp2_with fail
  refine (HNF.out _ B2.out).mono ?_
  rintro e w3 ⟨rfl, hb3⟩
  have B3 := Lib.hid (B2.out.trans (hb3.mono B2.out.size))
  clear hb3
  go_wp2_with fail
  go_ret
  exact ⟨rfl, B3.out⟩

set_option maxRecDepth 100000 in
set_option maxHeartbeats 8000000 in
theorem keeps_ok (w : World) (hG : RG w.heap.size w) (x : ByteArray) (a m : Int) (y : ByteArray) (h : (cut x).size ≤ 4000) :
    Calls Tryz.prog 5 #[.string x, .int .i64 a, .int .i64 m, .string y] w fun e W' => e = .returned (.bool true) ∧ Below w.heap.size w W' := by
  have hmix : Tryz.prog.follows .mixedOrders = true := by kernel_rfl
  have HSH := Lib.hid (shown_c w hG)
  have HG := Lib.hid hG
  obtain ⟨T, hT⟩ : ∃ T, T = (cut x).data.toList := ⟨_, rfl⟩
  obtain ⟨C, hC⟩ : ∃ C, C = cut x := ⟨_, rfl⟩
  have hbC : bs T = C := by rw [hT, hC, bs_of]
  have hTs : T.length ≤ 4000 := by rw [hT, ← Lib.size_eq]; exact h
  obtain ⟨U, hU⟩ : ∃ U, U = cut y := ⟨_, rfl⟩
  have hUs : U.data.toList.length ≤ 4010 := by rw [← Lib.size_eq, hU]; exact cut_size y
  have hcx := fun W => cut_any W x
  have hcy := fun W => cut_any W y
  rw [← hC] at hcx
  rw [← hU] at hcy
  have hnw := fun W1 (hb : Below w.heap.size w W1) => new_ok W1 (hG.below hb (Nat.le_refl _)).here T hTs
  rw [hbC] at hnw
  have hcn : T.count 10 + 1 ≤ 5000 := by have : T.count 10 ≤ T.length := List.count_le_length; omega
  obtain ⟨n0, hn0⟩ : ∃ n, n = T.count 10 + 1 := ⟨_, rfl⟩
  rw [← hn0] at hnw hcn
  have HNW := Lib.hid hnw
  have HCX := Lib.hid hcx
  have HCY := Lib.hid hcy
  have HBC := Lib.hid hbC
  clear hG hnw hcx hcy hbC hT hC hU h hn0
  go_enter Tryz.func5, Tryz.ntmps5
  go_wp2_with fail
  refine HSH.out.mono ?_
  rintro e w1 ⟨rfl, hb1⟩
  have B1 := Lib.hid hb1
  clear hb1
  go_wp2_with fail
  refine (HCX.out _).mono ?_
  rintro e w2 ⟨rfl, rfl⟩
  go_wp2_with fail
  refine (HNW.out _ B1.out).mono ?_
  rintro e w3 ⟨X, b, rfl, hl3, hb3⟩
  have B3 := Lib.hid (B1.out.trans (hb3.mono B1.out.size))
  have L3 := Lib.hid (hl3.mono (base' := w.heap.size) B1.out.size)
  clear hl3 hb3
  go_wp2_with fail
  refine (HNW.out _ B3.out).mono ?_
  rintro e w4 ⟨Y, c, rfl, hl4, hb4⟩
  have B4 := Lib.hid (B3.out.trans (hb4.mono B3.out.size))
  have L4 := Lib.hid (L3.out.below hb4)
  have M4 := Lib.hid hl4
  have HXY : Hid (Y ≠ X ∧ c ≠ b) := Lib.hid ⟨by have h1 := hl4.baseX; have h2 := L3.out.ltX; omega, by have h1 := hl4.ltb.2.1; have h2 := L3.out.ltb.1; omega⟩
  have G4 := Lib.hid (HG.out.below B4.out (Nat.le_refl _))
  clear hl4 hb4
  go_wp2_with fail
  refine (HCY.out _).mono ?_
  rintro e w5 ⟨rfl, rfl⟩
  go_wp2_with fail
  refine (splice_any w.heap.size _ G4.out X b T n0 (by omega) L4.out a m U).mono ?_
  rintro e w5 ⟨F, O, N, E, rfl, b', T', hl5, hoff, hbb, hcase⟩
  have B5 := Lib.hid (B4.out.trans (hoff.below B4.out.size L4.out.baseX L4.out.ltb.2.1))
  have M5 : Hid (Lx w5 w3.heap.size Y c T n0) := Lib.hid (by
    obtain ⟨E0, cap0, r1, r2, _, _⟩ := L4.out.ex
    obtain ⟨cb, hcb⟩ := ownsRow_at r2 (k := b) rfl
    exact M4.out.off hoff HXY.out.1 HXY.out.2 (fun o ho => ⟨_, by rw [show w4.heap[X]? = _ from r1] at ho; exact (Option.some.inj ho).symm⟩) (fun o ho => ⟨_, by rw [hcb] at ho; exact (Option.some.inj ho).symm⟩))
  have L5 := Lib.hid hl5
  have HCS := Lib.hid hcase
  clear hoff hbb hl5 hcase L4 M4
  have hal : Below w5.heap.size w5 (w5.alloc (.cells #[.int .i64 (F : Int), .int .i64 (O : Int), .int .i64 (N : Int)] 33)) := (Below.refl _ w5).alloc (Nat.le_refl _) _
  obtain ⟨wA, hwA⟩ : ∃ wA, wA = w5.alloc (.cells #[.int .i64 (F : Int), .int .i64 (O : Int), .int .i64 (N : Int)] 33) := ⟨_, rfl⟩
  have hCR : Row wA w5.heap.size 33 #[.int .i64 (F : Int), .int .i64 (O : Int), .int .i64 (N : Int)] := by rw [hwA]; exact Row.new _ _ _
  rw [← hwA] at hal
  have L6 := Lib.hid (L5.out.below hal)
  have M6 := Lib.hid (M5.out.below hal)
  have B6 := Lib.hid (B5.out.trans (hal.mono B5.out.size))
  obtain ⟨q, hq⟩ : ∃ q, q = w5.heap.size := ⟨_, rfl⟩
  rw [← hq] at hCR
  have CR := Lib.hid hCR
  have HWA := Lib.hid hwA
  have HQ := Lib.hid hq
  clear hal hCR hwA hq
  rcases HCS.out with ⟨hE, hN, hFO, A, M, hA, hM, hAM, hAM2, hT', hF, hO⟩ | ⟨hE, hN, hF, hO, hT', hbb⟩
  · -- the splice is done
    subst hE
    obtain ⟨NL, hNL⟩ : ∃ n, n = (splitL T).length := ⟨_, rfl⟩
    obtain ⟨hlc1, hlc2⟩ := lines_count T A M U.data.toList hAM
    rw [← hF, ← hO, ← hNL] at hlc1
    rw [← hT', ← hO, ← hN, ← hNL] at hlc2
    have hNL1 : NL ≤ 4001 := by have : T.count 10 ≤ T.length := List.count_le_length; rw [hNL, splitL_len]; omega
    have hO1 : 1 ≤ O := by rw [hO]; unfold olL; omega
    have hN1 : 1 ≤ N ∧ N ≤ 4011 := ⟨by omega, by have : U.data.toList.count 10 ≤ U.data.toList.length := List.count_le_length; omega⟩
    have hT's : T'.length ≤ 4000 := L6.out.small
    obtain ⟨hA0, hhA⟩ : ∃ h, h = wA.heap.size := ⟨_, rfl⟩
    have hcell : ∀ W, Below hA0 wA W → Row W q 33 #[.int .i64 (F : Int), .int .i64 (O : Int), .int .i64 (N : Int)] := fun W hb => CR.out.below hb (by rw [hhA]; exact CR.out.lt)
    have hxl : ∀ W, Below hA0 wA W → Calls Tryz.prog 18 #[.pointer (some ⟨X, 0, none⟩)] W fun e W' => e = .returned (.int .i64 ((NL : Int) - (O : Int) + (N : Int))) ∧ W' = W := fun W hb => by
      have := xlines_c W _ X b' T' _ (L6.out.below (by rw [← hhA]; exact hb))
      rw [hlc2] at this
      rwa [show ((NL - O + N : Nat) : Int) = (NL : Int) - (O : Int) + (N : Int) by omega] at this
    have hyl : ∀ W, Below hA0 wA W → Calls Tryz.prog 18 #[.pointer (some ⟨Y, 0, none⟩)] W fun e W' => e = .returned (.int .i64 (NL : Int)) ∧ W' = W := fun W hb => by
      have := xlines_c W _ Y c T _ (M6.out.below (by rw [← hhA]; exact hb))
      rwa [← hNL] at this
    have hxi : ∀ W (k : Int), Below hA0 wA W → Calls Tryz.prog 20 #[.pointer (some ⟨X, 0, none⟩), .int .i64 k] W fun e W' => ∃ v, e = .returned v ∧ TL W' v (linT T' k) ∧ Below W.heap.size W W' := fun W k hb =>
      (xline_c W _ X b' T' _ (L6.out.below (by rw [← hhA]; exact hb)) k).mono fun e W' ⟨v, q1, q2, q3⟩ => ⟨v, q1, OwnL.tl (linT_len hT's k) q2, q3⟩
    have hyi : ∀ W (k : Int), Below hA0 wA W → Calls Tryz.prog 20 #[.pointer (some ⟨Y, 0, none⟩), .int .i64 k] W fun e W' => ∃ v, e = .returned v ∧ TL W' v (linT T k) ∧ Below W.heap.size W W' := fun W k hb =>
      (xline_c W _ Y c T _ (M6.out.below (by rw [← hhA]; exact hb)) k).mono fun e W' ⟨v, q1, q2, q3⟩ => ⟨v, q1, OwnL.tl (linT_len hTs k) q2, q3⟩
    have hsame1 : ∀ j : Nat, j < F → j < NL → linT T' (j : Int) = linT T (j : Int) := fun j h1 h2 => by
      have hy : (splitL T)[j]? = some ((splitL T)[j]'(by rw [← hNL]; exact h2)) := List.getElem?_eq_getElem _
      have hx := lines_ahead T A M U.data.toList hAM j (by rw [← hF]; exact h1)
      rw [← hT', hy] at hx
      rw [linT_at hx, linT_at hy]
    have hsame2 : ∀ j : Nat, F + O ≤ j → j < NL → linT T' ((j : Int) - (O : Int) + (N : Int)) = linT T (j : Int) := fun j h1 h2 => by
      have hy : (splitL T)[j]? = some ((splitL T)[j]'(by rw [← hNL]; exact h2)) := List.getElem?_eq_getElem _
      have hx := lines_behind T A M U.data.toList hAM j (by rw [← hF, ← hO]; exact h1)
      rw [← hT', ← hO, ← hN, hy] at hx
      rw [show (j : Int) - (O : Int) + (N : Int) = ((j - O + N : Nat) : Int) by omega, linT_at hx, linT_at hy]
    have HCELL := Lib.hid hcell
    have HXL := Lib.hid hxl
    have HYL := Lib.hid hyl
    have HXI := Lib.hid hxi
    have HYI := Lib.hid hyi
    have HS1 := Lib.hid hsame1
    have HS2 := Lib.hid hsame2
    have hbA : Below w.heap.size w wA ∧ w.heap.size ≤ hA0 := ⟨B6.out, by rw [hhA]; exact B6.out.size⟩
    have HBA := Lib.hid hbA
    have hsz : hA0 ≤ wA.heap.size := by rw [hhA]; exact Nat.le_refl _
    have HSZ := Lib.hid hsz
    have hF1 : F ≤ 4001 := by omega
    have hO2 : O ≤ 4001 := by omega
    have hWQ : Hid (w5.alloc (.cells #[.int .i64 (F : Int), .int .i64 (O : Int), .int .i64 (N : Int)] 33) = wA ∧ w5.heap.size = q) := Lib.hid ⟨HWA.out.symm, HQ.out.symm⟩
    clear hcell hxl hyl hxi hyi hsame1 hsame2 hbA hsz hlc2 hT' hA hM hAM hAM2 hN hF hO hNL hhA HWA HQ HCS
    go_wp2
    rw [hWQ.out.1, hWQ.out.2]
    clear hWQ
    go_loopw [16, 17] (fun i _ wr => ∃ j : Nat, j ≤ NL ∧ i = .int .i64 j ∧ Below hA0 wA wr)
      (fun i _ _ => NL - (intOf i).toNat)
    case atStart => exact ⟨0, Nat.zero_le _, rfl, Below.refl _ _⟩
    case round =>
      obtain ⟨j, hj, rfl, hb1⟩ := hrel
      have HB := Lib.hid hb1
      have hcr := HCELL.out wr hb1
      have c0 := hcr.cell 0
      have c1 := hcr.cell 1
      have c2 := hcr.cell 2
      simp only [List.getElem?_toArray, List.getElem?_cons_zero, List.getElem?_cons_succ] at c0 c1 c2
      have HBS : Hid (hA0 ≤ wr.heap.size) := Lib.hid (Nat.le_trans HSZ.out hb1.size)
      have HYLJ := Lib.hid (HYL.out wr hb1)
      clear hb1 hcr
      by_cases hlt : j < NL
      · by_cases p1 : j < F
        · have t1 : decide ((F : Int) ≤ (j : Int)) = false := by simp; omega
          have HXJ := Lib.hid (HXI.out wr (j : Int) HB.out)
          have hsm := HS1.out j p1 hlt
          rw [hsm] at HXJ
          clear hsm
          go_wp2_with fail
          refine HYLJ.out.mono ?_
          rintro e w7 ⟨rfl, hw⟩
          obtain rfl := hw.symm
          clear hw
          go_wp2_with fail
          refine HXJ.out.mono ?_
          rintro e w8 ⟨v8, rfl, ht8, hb8⟩
          have B8 := Lib.hid (HB.out.trans (hb8.mono HBS.out))
          have S8 : Hid (hA0 ≤ w8.heap.size) := Lib.hid (Nat.le_trans HBS.out hb8.size)
          have T8 := Lib.hid ht8
          clear ht8 hb8
          go_wp2_with fail
          refine (HYI.out w8 (j : Int) B8.out).mono ?_
          rintro e w9 ⟨v9, rfl, ht9, hb9⟩
          have B9 := Lib.hid (B8.out.trans (hb9.mono S8.out))
          have S9 : Hid (hA0 ≤ w9.heap.size) := Lib.hid (Nat.le_trans S8.out hb9.size)
          have T9 := Lib.hid ht9
          have U9 := Lib.hid (T8.out.below hb9)
          clear ht9 hb9
          go_wp2_with fail
          refine (rsame_c v8 v9 _ _ w9 U9.out T9.out).mono ?_
          rintro e w10 ⟨rfl, hb10⟩
          have B10 := Lib.hid (B9.out.trans (hb10.mono S9.out))
          clear hb10
          have hdec : decide (linT T (j : Int) = linT T (j : Int)) = true := by simp
          rw [hdec]
          clear hdec
          go_wp2
          go_roundw
          case rel => exact ⟨j + 1, by omega, by simp, B10.out⟩
          case measure => simp [intOf]; omega
        · have t1 : decide ((F : Int) ≤ (j : Int)) = true := by simp; omega
          by_cases p2 : j < F + O
          · have t2 : decide ((j : Int) < (F : Int) + (O : Int)) = true := by simp; omega
            go_wp2_with fail
            refine HYLJ.out.mono ?_
            rintro e w7 ⟨rfl, hw⟩
            obtain rfl := hw.symm
            clear hw
            go_wp2
            go_roundw
            case rel => exact ⟨j + 1, by omega, by simp, HB.out⟩
            case measure => simp [intOf]; omega
          · have t2 : decide ((j : Int) < (F : Int) + (O : Int)) = false := by simp; omega
            have HXJ := Lib.hid (HXI.out wr ((j : Int) - (O : Int) + (N : Int)) HB.out)
            have hsm := HS2.out j (by omega) hlt
            rw [hsm] at HXJ
            clear hsm
            go_wp2_with fail
            refine HYLJ.out.mono ?_
            rintro e w7 ⟨rfl, hw⟩
            obtain rfl := hw.symm
            clear hw
            go_wp2_with fail
            refine HXJ.out.mono ?_
            rintro e w8 ⟨v8, rfl, ht8, hb8⟩
            have B8 := Lib.hid (HB.out.trans (hb8.mono HBS.out))
            have S8 : Hid (hA0 ≤ w8.heap.size) := Lib.hid (Nat.le_trans HBS.out hb8.size)
            have T8 := Lib.hid ht8
            clear ht8 hb8
            go_wp2_with fail
            refine (HYI.out w8 (j : Int) B8.out).mono ?_
            rintro e w9 ⟨v9, rfl, ht9, hb9⟩
            have B9 := Lib.hid (B8.out.trans (hb9.mono S8.out))
            have S9 : Hid (hA0 ≤ w9.heap.size) := Lib.hid (Nat.le_trans S8.out hb9.size)
            have T9 := Lib.hid ht9
            have U9 := Lib.hid (T8.out.below hb9)
            clear ht9 hb9
            go_wp2_with fail
            refine (rsame_c v8 v9 _ _ w9 U9.out T9.out).mono ?_
            rintro e w10 ⟨rfl, hb10⟩
            have B10 := Lib.hid (B9.out.trans (hb10.mono S9.out))
            clear hb10
            have hdec : decide (linT T (j : Int) = linT T (j : Int)) = true := by simp
            rw [hdec]
            clear hdec
            go_wp2
            go_roundw
            case rel => exact ⟨j + 1, by omega, by simp, B10.out⟩
            case measure => simp [intOf]; omega
      · obtain rfl : j = NL := by omega
        have HXLJ := Lib.hid (fun nq => HXL.out (wr.drewN nq) (HB.out.trans ⟨rfl, rfl, rfl, Nat.le_refl _, fun _ _ => rfl⟩))
        have HYLN := Lib.hid (fun nq => HYL.out (wr.drewN nq) (HB.out.trans ⟨rfl, rfl, rfl, Nat.le_refl _, fun _ _ => rfl⟩))
        have t4 : decide ((1 : Int) ≤ (N : Int)) = true := by simp; omega
        have t5 : decide ((1 : Int) ≤ (O : Int)) = true := by simp; omega
        go_wp2_with fail
        refine HYLJ.out.mono ?_
        rintro e w7 ⟨rfl, hw⟩
        obtain rfl := hw.symm
        clear hw
        go_wp2_with fail
        refine wp_region_quiet_lit (by kernel_rfl) (by kernel_rfl) ?_
        open Go.BigFrame in (go_big_quiet_step (refine Calls.quiet_of_same (HXLJ.out _)))
        open Go.BigFrame in (go_big_quiet_step (refine Calls.quiet_of_same (HXLJ.out _)))
        open Go.BigFrame in (go_big_quiet_step (refine Calls.quiet_of_same (HXLJ.out _)))
        open Go.BigFrame in (go_big_quiet_step (refine Calls.quiet_of_same (HXLJ.out _)))
        open Go.BigFrame in (go_big_quiet_step (refine Calls.quiet_of_same (HXLJ.out _)))
        open Go.BigFrame in (repeat (go_big_quiet_step (refine Calls.quiet_of_same (HYLN.out _))))
        refine wpQuiet_nil ?_
        intro _ hw'
        obtain ⟨nq, hw''⟩ := hw'
        subst hw''
        go_wp2_with fail
        go_ret
        exact ⟨by simp, HBA.out.1.trans ((HB.out.mono HBA.out.2).trans ⟨rfl, rfl, rfl, Nat.le_refl _, fun _ _ => rfl⟩)⟩
  · -- it isn't
    subst hN hF hO hT'
    have hEn : (E != 0) = true := by rcases hE with ⟨h1, _⟩ | ⟨h1, _⟩ <;> rw [h1] <;> rfl
    have d0 := CR.out.cell 0
    have d1 := CR.out.cell 1
    have d2 := CR.out.cell 2
    simp only [List.getElem?_toArray, List.getElem?_cons_zero, List.getElem?_cons_succ] at d0 d1 d2
    rw [Nat.add_zero] at L6
    have hwz : wA = w5.alloc (.cells #[.int .i64 0, .int .i64 0, .int .i64 0] 33) := HWA.out
    clear HWA
    subst hwz
    have htx := xtext_c _ _ X b' _ n0 L6.out
    rw [HBC.out] at htx
    have HT := Lib.hid htx
    clear hE htx
    go_wp2_with fail
    refine HT.out.mono ?_
    rintro e w7 ⟨rfl, hb7⟩
    have L7 := Lib.hid (L6.out.below hb7)
    have M7 := Lib.hid (M6.out.below hb7)
    have B7 := Lib.hid (B6.out.trans (hb7.mono B6.out.size))
    clear hb7
    go_wp2_with fail
    refine (lexed_c w7 _ X b' _ n0 L7.out).mono ?_
    rintro e w8 ⟨rfl, hw⟩
    obtain rfl := hw.symm
    clear hw
    go_wp2_with fail
    refine (lexed_c w7 _ Y c _ n0 M7.out).mono ?_
    rintro e w8 ⟨rfl, hw⟩
    obtain rfl := hw.symm
    clear hw
    go_wp2_with fail
    go_ret
    exact ⟨by simp, B7.out⟩
theorem keeps_true (w : World) (hG : RG w.heap.size w) (x : ByteArray) (_ : x.size ≤ maxLen) (a m : Int) (y : ByteArray) (_ : y.size ≤ maxLen) :
    Calls Tryz.prog 5 #[.string x, .int .i64 a, .int .i64 m, .string y] w fun e W' => e = .returned (.bool true) ∧ Below w.heap.size w W' := by
  by_cases h : (cut x).size ≤ 4000
  · exact keeps_ok w hG x a m y h
  · exact keeps_full w hG x a m y (by omega)
end Go.Proofs.YtkbidbmejpiomaaGreatDoor
