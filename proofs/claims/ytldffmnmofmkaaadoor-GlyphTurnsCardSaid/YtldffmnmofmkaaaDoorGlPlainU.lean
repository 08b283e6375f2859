/- The plain Ascii. -/
import Derived.Test.YtldffmnmofmkaaaDoorGlPlainT
namespace Go.Proofs.YtldffmnmofmkaaaDoor
open Go Go.RowKit

set_option maxRecDepth 100000 in
set_option maxHeartbeats 4000000 in
theorem rascii_c (X : List UInt8) (hX : X.length ≤ 300) (w : World) :
    Calls Tryd.prog 23 #[.string (bs X)] w fun e W' => e = .returned (.string (bs (turn ty X 0))) ∧ Below w.heap.size w W' := by
  obtain ⟨i0, hi, hz0, hz1, hz2⟩ := info_parts Tryd.infoU8
  obtain ⟨x, hx⟩ : ∃ x, x = bs X := ⟨_, rfl⟩
  have hxl : x.data.toList = X := by rw [hx, bs_list]
  have hxs : x.size ≤ 300 := by rw [hx, bs_size]; exact hX
  have hxz : x.size = X.length := by rw [hx, bs_size]
  have HX := Lib.hid hxl
  have HXZ := Lib.hid hxz
  have hfi : ∀ k w, Calls Tryd.prog 14 #[.string (x.extract k x.size)] w fun e W' => e = .returned (.tuple #[.string (bs (optG (firstK (X.drop k)))), .int .i64 ((fsz (X.drop k) : Nat) : Int)]) ∧ Below w.heap.size w W' := fun k w => by
    have h1 := rfirst_c (X.drop k) (by rw [List.length_drop]; omega) w
    rw [hx, bs_drop]
    exact h1
  rw [← hx]
  have HF := Lib.hid hfi
  clear hx hxl hfi hxz
  go_enter Tryd.func23, Tryd.ntmps23
  go_wp2
  go_loopw [3, 4] (fun u i wr => ∃ (k : Nat) (O : List UInt8), k ≤ x.size ∧ i = .int .i64 k ∧ wr.ownsRow w.heap.size 5 1 u O.length (Lib.byteCells O) ∧ Mid ty X k O ∧ Below w.heap.size w wr)
    (fun _ i _ => x.size - (intOf i).toNat)
  case atStart => exact ⟨0, [], Nat.zero_le _, rfl, World.ownsRow_nil _ _ _ _, Mid.start ty X, Below.refl _ _⟩
  case round =>
    obtain ⟨k, O, hk, rfl, hown, hM, hB⟩ := hrel
    have HO := Lib.hid hown
    have HM := Lib.hid hM
    have HB := Lib.hid hB
    have HL := Lib.hid (hM.len ty_len hX)
    have hbs := hB.size
    clear hown hM hB
    by_cases hlt : k < x.size
    · have hdr : X.drop k = x[k] :: X.drop (k + 1) := by rw [← HX.out]; exact firstK_byte x k hlt
      have HDR := Lib.hid hdr
      have hc := HF.out k
      have hz3 := fsz_le3 (X.drop k)
      clear hdr
      obtain ⟨z, hz⟩ : ∃ z, z = fsz (X.drop k) := ⟨_, rfl⟩
      obtain ⟨g, hg⟩ : ∃ g, g = bs (optG (firstK (X.drop k))) := ⟨_, rfl⟩
      have hdi := fun w => rdig_c (optG (firstK (X.drop k))) w
      obtain ⟨D, hD⟩ : ∃ D, D = dig' (optG (firstK (X.drop k))) := ⟨_, rfl⟩
      have HDJ : Hid (∀ j, firstK (X.drop k) = some j → D = di j) := Lib.hid (fun j hj => by rw [hD, hj]; exact dig_hit j (firstK_some.1 hj).1)
      rw [← hD] at hdi
      obtain ⟨o, ho⟩ : ∃ o, o = D.isEmpty := ⟨_, rfl⟩
      have HOD : Hid (o = true ↔ D = []) := Lib.hid (by rw [ho]; simp)
      rw [← hz, ← hg] at hc
      rw [← hz] at hz3
      rw [← hg, ← ho] at hdi
      obtain ⟨d, hd⟩ : ∃ d, d = bs D := ⟨_, rfl⟩
      rw [← hd] at hdi
      have HC := Lib.hid hc
      have HDI := Lib.hid hdi
      have HZ := Lib.hid hz
      have HDD := Lib.hid hd
      clear hc hz hg hdi hD ho hd
      by_cases hit : z ≠ 0 ∧ o = false
      · obtain ⟨hz0', rfl⟩ := hit
        have hDn : D ≠ [] := fun h => by have := HOD.out.2 h; cases this
        obtain ⟨j, hj⟩ : ∃ j, firstK (X.drop k) = some j := by
          cases hf : firstK (X.drop k) with
          | some j => exact ⟨j, rfl⟩
          | none => have h1 := HZ.out; unfold fsz at h1; rw [hf] at h1; dsimp only at h1; omega
        have hDj := HDJ.out j hj
        have hty : ty j = D := by unfold ty; rw [if_neg (by rw [← hDj]; exact hDn), hDj]
        have hkz : k + z ≤ x.size := by
          have h1 := fsz_le (X.drop k)
          rw [← HZ.out, List.length_drop, ← HXZ.out] at h1
          omega
        have HN : Hid (Mid ty X (k + z) (O ++ D)) := Lib.hid (by have h1 := HM.out.hit hj; rw [← HZ.out, hty] at h1; exact h1)
        have HJ3 : Hid (D.length ≤ 3) := Lib.hid (by rw [← hty]; exact ty_len j (firstK_some.1 hj).1)
        have hzp : (0 : Int) < (z : Int) := by omega
        clear hj hDj hty hDn
        go_wp2_with fail
        refine (HC.out _).mono ?_
        rintro e w0 ⟨rfl, hb0⟩
        have HB0 := Lib.hid (HB.out.trans (hb0.mono hbs))
        have hbs0 : w.heap.size ≤ w0.heap.size := Nat.le_trans hbs hb0.size
        have HO0 := Lib.hid (own_below HO.out hb0)
        clear hb0
        go_wp2_with fail
        refine (HDI.out _).mono ?_
        rintro e w1 ⟨rfl, hb1⟩
        have HO1 := Lib.hid (own_below HO0.out hb1)
        have HB1 := Lib.hid (HB0.out.trans (hb1.mono hbs0))
        have hbs1 : w.heap.size ≤ w1.heap.size := Nat.le_trans hbs0 hb1.size
        have HM1 : Hid (O.length + d.size ≤ maxLen ∧ O.length + d.size ≤ 140737488355328) := Lib.hid (by have h1 := HL.out; have h2 := HJ3.out; rw [HDD.out, bs_size]; unfold maxLen; omega)
        clear hb1
        go_wp2_with (at_builtin; refine Lib.wpList_append_own_string _ rfl (.tmp 30) (.tmp 31) 53 9 rfl w.heap.size 5 i0 Tryd.underlying53 Tryd.underlying9 hi hz0 hz1 hz2 u3 _ _ rfl HO1.out d rfl HM1.out.1 HM1.out.2 hbs1 ?_; intro v' w2 hown' hgrow _; have HG := Lib.hid hgrow; have HO' := Lib.hid hown'; clear hown' hgrow)
        go_roundw
        case rel =>
          refine ⟨k + z, O ++ D, hkz, by go_num, ?_, HN.out, HB1.out.grown HG.out hbs1 (fun i ei => (HO1.out.lt i ei).1)⟩
          have h1 := HO'.out
          rw [HDD.out, bs_size, strCells_bs, ← byteCells_app, ← List.length_append] at h1
          exact h1
        case measure => simp [intOf]; omega
      · have HN : Hid (Mid ty X (k + 1) (O ++ [x[k]])) := Lib.hid (HM.out.byte HDR.out (turn_ty_byte (fun j hj => by
          rw [← HDR.out] at hj
          have hz1 := fsz_pos hj
          rw [← HZ.out] at hz1
          rw [← HDJ.out j hj]
          refine HOD.out.1 ?_
          cases o with
          | true => rfl
          | false => exact absurd ⟨by omega, rfl⟩ hit)))
        have H3 : Hid (O.length + 1 ≤ maxLen ∧ (O.length + 1) * 1 ≤ 140737488355328) := Lib.hid (by have h1 := HL.out; unfold maxLen; omega)
        by_cases hzz : z = 0
        · have tz : ¬ (0 : Int) < (z : Int) := by omega
          clear hit
          go_wp2_with fail
          refine (HC.out _).mono ?_
          rintro e w0 ⟨rfl, hb0⟩
          have HB0 := Lib.hid (HB.out.trans (hb0.mono hbs))
          have hbs0 : w.heap.size ≤ w0.heap.size := Nat.le_trans hbs hb0.size
          have HO0 := Lib.hid (own_below HO.out hb0)
          clear hb0
          go_wp2_with fail
          refine (HDI.out _).mono ?_
          rintro e w1 ⟨rfl, hb1⟩
          have HO1 := Lib.hid (own_below HO0.out hb1)
          have HB1 := Lib.hid (HB0.out.trans (hb1.mono hbs0))
          have hbs1 : w.heap.size ≤ w1.heap.size := Nat.le_trans hbs0 hb1.size
          have HC1 : Hid (∀ (j : Nat) (u : Value), [Value.int .u8 (x[k].toNat : Int)][j]? = some u → (w1.alloc (.cells #[.int .u8 (x[k].toNat : Int)] 5)).cell? ((⟨w1.heap.size, 0, none⟩ : Addr).add j) = some u) := Lib.hid (cell_one_new _ _ _)
          have HC2 : Hid (∀ u ∈ [Value.int .u8 (x[k].toNat : Int)], u.oneCell' = true) := Lib.hid (by simp [Value.oneCell'])
          have H5 : Hid (w.heap.size ≤ (w1.alloc (.cells #[.int .u8 (x[k].toNat : Int)] 5)).heap.size) := Lib.hid (by rw [World.size_alloc]; omega)
          clear hb1
          go_wp2_with (at_builtin; refine wpList_append_lies _ rfl (.tmp 36) (.tmp 40) 53 rfl w.heap.size 5 i0 (.int .u8 0) 1 1 Tryd.underlying53 hi hz0 hz1 hz2 rfl (by decide) u3 _ _ rfl (HO1.out.alloc _) ⟨w1.heap.size, 0, none⟩ 1 1 [.int .u8 (x[k].toNat : Int)] rfl rfl HC1.out HC2.out (by decide) H3.out.1 H3.out.2 H5.out _ rfl ?_; intro g2 cap w2 hown' hgrow hat hlt1; have HG := Lib.hid hgrow; have HO' := Lib.hid hown'; clear hown' hgrow hat hlt1)
          go_roundw
          case rel =>
            refine ⟨k + 1, O ++ [x[k]], by omega, by go_num, ?_, HN.out, (HB1.out.alloc hbs1 _).grown HG.out H5.out (fun i ei => (HO1.out.lt i ei).1)⟩
            have h1 := HO'.out
            rw [byteCells_snoc, List.length_append, List.length_singleton]
            exact h1
          case measure => simp [intOf]; omega
        · have tz : (0 : Int) < (z : Int) := by omega
          have ho : o = true := by
            cases o with
            | true => rfl
            | false => exact absurd ⟨hzz, rfl⟩ hit
          subst ho
          clear hit
          go_wp2_with fail
          refine (HC.out _).mono ?_
          rintro e w0 ⟨rfl, hb0⟩
          have HB0 := Lib.hid (HB.out.trans (hb0.mono hbs))
          have hbs0 : w.heap.size ≤ w0.heap.size := Nat.le_trans hbs hb0.size
          have HO0 := Lib.hid (own_below HO.out hb0)
          clear hb0
          go_wp2_with fail
          refine (HDI.out _).mono ?_
          rintro e w1 ⟨rfl, hb1⟩
          have HO1 := Lib.hid (own_below HO0.out hb1)
          have HB1 := Lib.hid (HB0.out.trans (hb1.mono hbs0))
          have hbs1 : w.heap.size ≤ w1.heap.size := Nat.le_trans hbs0 hb1.size
          have HC1 : Hid (∀ (j : Nat) (u : Value), [Value.int .u8 (x[k].toNat : Int)][j]? = some u → (w1.alloc (.cells #[.int .u8 (x[k].toNat : Int)] 5)).cell? ((⟨w1.heap.size, 0, none⟩ : Addr).add j) = some u) := Lib.hid (cell_one_new _ _ _)
          have HC2 : Hid (∀ u ∈ [Value.int .u8 (x[k].toNat : Int)], u.oneCell' = true) := Lib.hid (by simp [Value.oneCell'])
          have H5 : Hid (w.heap.size ≤ (w1.alloc (.cells #[.int .u8 (x[k].toNat : Int)] 5)).heap.size) := Lib.hid (by rw [World.size_alloc]; omega)
          clear hb1
          go_wp2_with (at_builtin; refine wpList_append_lies _ rfl (.tmp 36) (.tmp 40) 53 rfl w.heap.size 5 i0 (.int .u8 0) 1 1 Tryd.underlying53 hi hz0 hz1 hz2 rfl (by decide) u3 _ _ rfl (HO1.out.alloc _) ⟨w1.heap.size, 0, none⟩ 1 1 [.int .u8 (x[k].toNat : Int)] rfl rfl HC1.out HC2.out (by decide) H3.out.1 H3.out.2 H5.out _ rfl ?_; intro g2 cap w2 hown' hgrow hat hlt1; have HG := Lib.hid hgrow; have HO' := Lib.hid hown'; clear hown' hgrow hat hlt1)
          go_roundw
          case rel =>
            refine ⟨k + 1, O ++ [x[k]], by omega, by go_num, ?_, HN.out, (HB1.out.alloc hbs1 _).grown HG.out H5.out (fun i ei => (HO1.out.lt i ei).1)⟩
            have h1 := HO'.out
            rw [byteCells_snoc, List.length_append, List.length_singleton]
            exact h1
          case measure => simp [intOf]; omega
    · obtain rfl : k = x.size := by omega
      have hO : O = turn ty X 0 := by
        have h1 := HM.out
        rw [HXZ.out] at h1
        exact h1.stop
      have hcv := own_conv (HO.out)
      rw [hO] at hcv
      obtain ⟨a7, l7, k7, rfl⟩ := own_slice HO.out
      clear hO
      go_wp2
      go_ret
      exact ⟨rfl, HB.out⟩
end Go.Proofs.YtldffmnmofmkaaaDoor
