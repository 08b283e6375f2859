/- The law NodeLeaves. -/
import Derived.Test.YtbegplfijjbpcaaDoorNqShown
import Derived.Test.YtbegplfijjbpcaaDoorNoC
namespace Go.Proofs.YtbegplfijjbpcaaDoor.No
open Go Go.RowKit Go.Shelf
attribute [local go_sem] Oper.semAt_some

/-- A world where the sentinel lies. -/
def NG (w : World) : Prop := ∃ ad, EN w ad
/-- The first fifty bytes. -/
def cut5 (s : ByteArray) : List UInt8 := s.data.toList.take 50
set_option maxRecDepth 100000 in
theorem cut_c (s : ByteArray) (hs : s.size ≤ maxLen) (w : World) :
    Calls Tryd.prog 21 #[.string s] w fun e W' => e = .returned (.string (bs (cut5 s))) ∧ W' = w := by
  have hx : s.extract 0 (min s.size 50) = bs (cut5 s) := by
    have h := ext_take s.data.toList (min s.size 50)
    rw [bs_of] at h
    rw [h]
    congr 1
    unfold cut5
    rw [Lib.size_eq, List.take_eq_take_iff]
    omega
  obtain ⟨R, hR⟩ : ∃ R, R = bs (cut5 s) := ⟨_, rfl⟩
  rw [← hR] at hx ⊢
  clear hR
  unfold maxLen at hs
  have hmin : (min (s.size : Int) 50).toNat = min s.size 50 := by omega
  have HX := Lib.hid (show s.extract 0 (min (s.size : Int) 50).toNat = R by rw [hmin]; exact hx)
  clear hx hmin
  go_enter Tryd.func21, Tryd.ntmps21
  go_wp2
  go_ret
  exact ⟨by rw [← HX.out]; rfl, rfl⟩
theorem cut5_len (s : ByteArray) : (cut5 s).length ≤ 50 := List.length_take_le _ _
/-- A leaf has no kid. -/
theorem leaf_kid (kind : Int) (text : List UInt8) : kidA [⟨kind, text, []⟩] 0 = ([], 70) := by
  unfold kidA rootK
  simp

set_option maxRecDepth 100000 in
set_option maxHeartbeats 2000000 in
theorem leaves_true (w : World) (hG : NG w) (k : Int) (s : ByteArray) (hs : s.size ≤ maxLen) :
    Calls Tryd.prog 8 #[.int .i64 k, .string s] w fun e W' => e = .returned (.bool true) ∧ Below w.heap.size w W' := by
  obtain ⟨ad, hE⟩ := hG
  have HE := Lib.hid hE
  have HSZ := Lib.hid hs
  obtain ⟨X, hX⟩ : ∃ X, X = cut5 s := ⟨_, rfl⟩
  have hXl : X.length ≤ 50 := by rw [hX]; exact cut5_len s
  have HXE := Lib.hid hX
  have HXL := Lib.hid hXl
  clear hE hs hX hXl
  go_enter Tryd.func8, Tryd.ntmps8
  go_wp2_with fail
  refine (shown_c w ad HE.out).mono ?_
  rintro e w1 ⟨rfl, hb1⟩
  have HB1 := Lib.hid hb1
  clear hb1
  go_wp2_with fail
  refine (cut_c s HSZ.out w1).mono ?_
  rintro e w1' ⟨rfl, rfl⟩
  rw [← HXE.out]
  obtain ⟨B, hB⟩ : ∃ B, B = bs X := ⟨_, rfl⟩
  have HBE := Lib.hid hB
  have HLF : Hid (Calls Tryd.prog 20 #[.int .i64 k, .string B] w1' fun e W' => Below w1'.heap.size w1' W' ∧ OUT w1' W' e (joinA k X [])) := Lib.hid (by rw [hB]; exact pleaf_c w1' k X (by have := HXL.out; omega) ad (HE.out.below HB1.out))
  rw [← hB]
  clear hB
  go_wp2_with fail
  refine HLF.out.mono ?_
  rintro e w2 ⟨hb2, ho⟩
  have HB2 := Lib.hid (HB1.out.trans (hb2.mono HB1.out.size))
  clear hb2
  by_cases h0 : (joinA k X []).2 = 0
  · obtain ⟨h1, h2, _⟩ := joinA_ok h0
    have hj : joinA k X [] = ([⟨k, X, []⟩], 0) := Prod.ext h1 h0
    rw [leaf_eq] at h2
    rw [hj] at ho
    obtain ⟨q, cap, rfl, hN⟩ := ho.yes
    have HN2 := Lib.hid hN
    have HXN : Hid (X ≠ []) := Lib.hid (leaf_text h2)
    have HDP : Hid (deepA [⟨k, X, []⟩] = 1) := Lib.hid (leaf_deep h2)
    have HSN : Hid (showA [⟨k, X, []⟩] ≠ []) := Lib.hid (show_ne h2)
    have hsm : ∀ x ∈ ([⟨k, X, []⟩] : List Nd), x.kids.length ≤ 1000000 ∧ x.text.length ≤ 10000000 := fun x hx => by
      obtain rfl : x = ⟨k, X, []⟩ := by simpa using hx
      exact ⟨Nat.zero_le _, by have := HXL.out; show X.length ≤ _; omega⟩
    have HSM := Lib.hid hsm
    clear hsm h1 h2 h0 hj ho hN
    go_wp2_with fail
    refine (pkid_c w2 _ _ 0 HN2.out (fun x hx => (HSM.out x hx).1) (fun x hx => (HSM.out x hx).2) ad (HE.out.below HB2.out)).mono ?_
    rintro e w3 ⟨hb3, ho3⟩
    rw [leaf_kid] at ho3
    obtain rfl := ho3.no
    have HB3 := Lib.hid (HB2.out.trans (hb3.mono HB2.out.size))
    have hN3 := HN2.out.below hb3
    have HN3 := Lib.hid hN3
    obtain ⟨g1, o1, c1, hv, hg, hcs⟩ := hN3.cells (by simp)
    obtain ⟨x0, x1, kv, x2, xk⟩ := hcs 0 ⟨k, X, []⟩ rfl
    injection hv with e1 _ e3
    injection e1 with e1
    injection e1 with e1 e2 _
    subst e1
    subst e2
    subst e3
    obtain ⟨ka, kc, rfl, _, _⟩ := xk.form
    simp only [Nat.zero_mul, Nat.add_zero, Nat.zero_add] at x0 x1 x2
    rw [← HBE.out] at x1
    clear hb3 ho3 hN3 hcs xk hg
    have HSH := Lib.hid (fun (W : World) (v : Value) (hW : NL W v [⟨k, X, []⟩]) => pshow_c W v [⟨k, X, []⟩] hW (fun x hx => (HSM.out x hx).1) (fun x hx => (HSM.out x hx).2))
    have hem : ∀ T : List UInt8, T ≠ [] → (bs T).toList.isEmpty = false := fun T h => by
      rw [ByteArray.toList_eq, bs_list]
      cases T with
      | nil => exact absurd rfl h
      | cons a T => rfl
    have hBe : B.toList.isEmpty = false := by rw [HBE.out]; exact hem X HXN.out
    obtain ⟨Z, hZ⟩ : ∃ Z, Z = bs (showA [⟨k, X, []⟩]) := ⟨_, rfl⟩
    have hZe : Z.toList.isEmpty = false := by rw [hZ]; exact hem _ HSN.out
    rw [← hZ] at HSH
    have HEMZ := Lib.hid hZe
    have HEMB := Lib.hid hBe
    clear hem hZ hZe hBe
    go_wp2_with fail
    refine (pdeep_c w3 _ _ HN3.out (fun x hx => (HSM.out x hx).1)).mono ?_
    rw [HDP.out]
    rintro e w4 ⟨rfl, hb4⟩
    have HB4 := Lib.hid (HB3.out.trans (hb4.mono HB3.out.size))
    have HN4 := Lib.hid (HN3.out.below hb4)
    clear hb4
    have hB1 := HEMB.out
    go_wp2_with fail
    refine (HSH.out w4 _ HN4.out).mono ?_
    rintro e w5 ⟨rfl, hb5⟩
    have HB5 := Lib.hid (HB4.out.trans (hb5.mono HB4.out.size))
    clear hb5
    have hZ1 := HEMZ.out
    go_wp2
    go_ret
    exact ⟨rfl, HB5.out⟩
  · have hj := joinA_no h0
    rw [hj] at ho
    obtain rfl := ho.no
    clear ho hj h0
    go_wp2
    go_ret
    exact ⟨rfl, HB2.out⟩
end Go.Proofs.YtbegplfijjbpcaaDoor.No
