/- The statement LexTexts, as a call. -/
import Derived.Test.YthnnjogkomhmfaaDoorLiFew
import Derived.Test.YthnnjogkomhmfaaDoorLiRef
import Derived.Test.YthnnjogkomhmfaaDoorLiRefSame
import Derived.Test.YthnnjogkomhmfaaDoorLxShown
namespace Go.Proofs.YthnnjogkomhmfaaDoor.Ti
open Go Go.RowKit Go.Shelf
attribute [local go_sem] Oper.semAt_some

theorem few_text (L : List Tk) : (textOf (fewL L)).length ≤ 18000 := by
  have key : ∀ (M : List Tk), (∀ t ∈ M, t.text.length ≤ 300) → (textOf M).length ≤ M.length * 300 := by
    intro M
    induction M with
    | nil => intro _; simp [textOf]
    | cons t M ih =>
      intro h
      have h1 := h t (by simp)
      have h2 := ih (fun u hu => h u (by simp [hu]))
      have e : textOf (t :: M) = t.text ++ textOf M := by simp [textOf]
      rw [e, List.length_append, List.length_cons]
      omega
  have h1 := key (fewL L) (fun t ht => (fewL_small L t ht).1)
  have h2 := fewL_len L
  omega

set_option maxRecDepth 100000 in
set_option maxHeartbeats 4000000 in
theorem texts_true (w : World) (hG : LG w) (v : Value) (L : List Tk) (h : TL w v L) (u : Value) (M : List Tk) (h' : TL w u M) :
    Calls Tryd.prog 3 #[v, u] w fun e W' => e = .returned (.bool true) ∧ Below w.heap.size w W' := by
  have hsh := shown_c w hG
  obtain ⟨F, hF⟩ : ∃ F, F = fewL L := ⟨_, rfl⟩
  obtain ⟨E, hE⟩ : ∃ E, E = fewL M := ⟨_, rfl⟩
  have hfl : F.length ≤ 60 := by rw [hF]; exact fewL_len L
  have hft : (textOf F).length ≤ 18000 := by rw [hF]; exact few_text L
  have hsm : Small F := fun t ht => by rw [hF] at ht; have := fewL_small L t ht; exact ⟨by omega, by omega⟩
  have hfew : ∀ W, Below w.heap.size w W → Calls Tryd.prog 10 #[v] W fun e W' => ∃ v', e = .returned v' ∧ TL W' v' F ∧ Below W.heap.size W W' := fun W hb =>
    (few_c W v L (h.below hb)).mono fun e W' ⟨v', h1, h2, h3⟩ => ⟨v', h1, by rw [hF]; exact OwnL.tl (by have := fewL_len L; unfold maxLen; omega) h2, h3⟩
  have hfew2 : ∀ W, Below w.heap.size w W → Calls Tryd.prog 10 #[u] W fun e W' => ∃ v', e = .returned v' ∧ TL W' v' E ∧ Below W.heap.size W W' := fun W hb =>
    (few_c W u M (h'.below hb)).mono fun e W' ⟨v', h1, h2, h3⟩ => ⟨v', h1, by rw [hE]; exact OwnL.tl (by have := fewL_len M; unfold maxLen; omega) h2, h3⟩
  obtain ⟨S, hS⟩ : ∃ S, S = bs (textOf F) := ⟨_, rfl⟩
  have htx : ∀ v W, TL W v F → Calls Tryd.prog 11 #[v] W fun e W' => e = .returned (.string S) ∧ Below W.heap.size W W' := fun v W h => by
    rw [hS]; exact text_c v F W h (by omega)
  have hrt : ∀ v W, TL W v F → Calls Tryd.prog 12 #[v] W fun e W' => e = .returned (.string S) ∧ W' = W := fun v W h => by
    rw [hS]; exact rtext_c v F W h (by omega)
  obtain ⟨P, hP⟩ : ∃ P, P = F.filter plainT := ⟨_, rfl⟩
  have hpl : ∀ u W, TL W u F → Calls Tryd.prog 14 #[u] W fun e W' => ∃ v', e = .returned v' ∧ TL W' v' P ∧ Below W.heap.size W W' := fun u W h => by
    rw [hP]; exact plain_c u F W h (by omega) hsm
  have hrp : ∀ u W, TL W u F → Calls Tryd.prog 15 #[u] W fun e W' => ∃ v', e = .returned v' ∧ TL W' v' P ∧ Below W.heap.size W W' := fun u W h => by
    rw [hP]; exact rplain_c u F W h (by omega)
  have hrs : ∀ u u' W, TL W u P → TL W u' P → Calls Tryd.prog 13 #[u, u'] W fun e W' => e = .returned (.bool true) ∧ Below W.heap.size W W' := fun u u' W h1 h2 => by
    have := rsame_c u u' P P W h1 h2
    rw [decide_eq_true rfl] at this
    exact this
  obtain ⟨q, hq⟩ : ∃ q, q = decide (F = E) := ⟨_, rfl⟩
  have hsa : ∀ u u' W, TL W u F → TL W u' E → Calls Tryd.prog 16 #[u, u'] W fun e W' => e = .returned (.bool q) ∧ Below W.heap.size W W' := fun u u' W h1 h2 => by
    rw [hq]; exact same_c u u' F E W h1 h2
  have hsr : ∀ u u' W, TL W u F → TL W u' E → Calls Tryd.prog 13 #[u, u'] W fun e W' => e = .returned (.bool q) ∧ Below W.heap.size W W' := fun u u' W h1 h2 => by
    rw [hq]; exact rsame_c u u' F E W h1 h2
  have hse : ∀ u u' W, TL W u F → TL W u' F → Calls Tryd.prog 16 #[u, u'] W fun e W' => e = .returned (.bool true) ∧ Below W.heap.size W W' := fun u u' W h1 h2 => by
    have := same_c u u' F F W h1 h2
    rw [decide_eq_true rfl] at this
    exact this
  obtain ⟨a9, c9, rfl, _, _⟩ := h.form
  obtain ⟨a8, c8, rfl, _, _⟩ := h'.form
  have HSH := Lib.hid hsh
  have HFEW := Lib.hid hfew
  have HFEW2 := Lib.hid hfew2
  have HTX := Lib.hid htx
  have HRT := Lib.hid hrt
  have HPL := Lib.hid hpl
  have HRP := Lib.hid hrp
  have HRS := Lib.hid hrs
  have HSA := Lib.hid hsa
  have HSR := Lib.hid hsr
  have HSE := Lib.hid hse
  clear h h' hsh hfew hfew2 htx hrt hpl hrp hrs hsa hsr hse hP hF hE hS hsm hG hft hq
  go_enter Tryd.func3, Tryd.ntmps3
  go_wp2_with fail
  refine HSH.out.mono ?_
  rintro e w1 ⟨rfl, hb1⟩
  have B1 := Lib.hid hb1
  clear hb1
  go_wp2_with fail
  refine (HFEW.out _ B1.out).mono ?_
  rintro e w2 ⟨v2, rfl, hv2, hb2⟩
  have V2 := Lib.hid hv2
  have B2 := Lib.hid (B1.out.trans (hb2.mono B1.out.size))
  clear hb2 HFEW
  obtain ⟨a2, c2, rfl, _, _⟩ := hv2.form
  clear hv2
  go_wp2_with fail
  refine (HFEW2.out _ B2.out).mono ?_
  rintro e w3 ⟨v3, rfl, hv3, hb3⟩
  have V3 := Lib.hid hv3
  have V2b := Lib.hid (V2.out.below hb3)
  have B3 := Lib.hid (B2.out.trans (hb3.mono B2.out.size))
  clear hb3 HFEW2
  obtain ⟨a3, c3, rfl, _, _⟩ := hv3.form
  clear hv3
  go_wp2_with fail
  refine (HTX.out _ _ V2b.out).mono ?_
  rintro e w4 ⟨rfl, hb4⟩
  have V2c := Lib.hid (V2b.out.below hb4)
  have V3c := Lib.hid (V3.out.below hb4)
  have B4 := Lib.hid (B3.out.trans (hb4.mono B3.out.size))
  clear hb4 HTX
  go_wp2_with fail
  refine (HRT.out _ _ V2c.out).mono ?_
  rintro e w5 ⟨rfl, hw5⟩
  obtain rfl := hw5.symm
  clear hw5 HRT
  go_wp2_with fail
  refine (HPL.out _ _ V2c.out).mono ?_
  rintro e w6 ⟨v6, rfl, hv6, hb6⟩
  have P6 := Lib.hid hv6
  have V2d := Lib.hid (V2c.out.below hb6)
  have V3d := Lib.hid (V3c.out.below hb6)
  have B6 := Lib.hid (B4.out.trans (hb6.mono B4.out.size))
  clear hb6 HPL
  obtain ⟨a6, c6, rfl, _, _⟩ := hv6.form
  clear hv6
  go_wp2_with fail
  refine (HRP.out _ _ V2d.out).mono ?_
  rintro e w7 ⟨v7, rfl, hv7, hb7⟩
  have P7 := Lib.hid hv7
  have P6b := Lib.hid (P6.out.below hb7)
  have V2e := Lib.hid (V2d.out.below hb7)
  have V3e := Lib.hid (V3d.out.below hb7)
  have B7 := Lib.hid (B6.out.trans (hb7.mono B6.out.size))
  clear hb7 HRP
  obtain ⟨a7, c7, rfl, _, _⟩ := hv7.form
  clear hv7
  go_wp2_with fail
  refine (HRS.out _ _ _ P6b.out P7.out).mono ?_
  rintro e w8 ⟨rfl, hb8⟩
  have V2f := Lib.hid (V2e.out.below hb8)
  have V3f := Lib.hid (V3e.out.below hb8)
  have B8 := Lib.hid (B7.out.trans (hb8.mono B7.out.size))
  clear hb8 HRS
  go_wp2_with fail
  refine (HSA.out _ _ _ V2f.out V3f.out).mono ?_
  rintro e w9 ⟨rfl, hb9⟩
  have V2g := Lib.hid (V2f.out.below hb9)
  have V3g := Lib.hid (V3f.out.below hb9)
  have B9 := Lib.hid (B8.out.trans (hb9.mono B8.out.size))
  clear hb9 HSA
  go_wp2_with fail
  refine (HSR.out _ _ _ V2g.out V3g.out).mono ?_
  rintro e w10 ⟨rfl, hb10⟩
  have V2h := Lib.hid (V2g.out.below hb10)
  have B10 := Lib.hid (B9.out.trans (hb10.mono B9.out.size))
  clear hb10 HSR
  go_wp2_with fail
  refine (HSE.out _ _ _ V2h.out V2h.out).mono ?_
  rintro e w11 ⟨rfl, hb11⟩
  have B11 := Lib.hid (B10.out.trans (hb11.mono B10.out.size))
  clear hb11 HSE
  go_wp2_with fail
  go_ret
  exact ⟨by simp, B11.out⟩
end Go.Proofs.YthnnjogkomhmfaaDoor.Ti
