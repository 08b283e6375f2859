/- The law NodeTells. Written by gen/mktells.py. -/
import Derived.Test.YtbegplfijjbpcaaDoorNqCf
import Derived.Test.YtbegplfijjbpcaaDoorNqSame
namespace Go.Proofs.YtbegplfijjbpcaaDoor.No
open Go Go.RowKit Go.Shelf
attribute [local go_sem] Oper.semAt_some

theorem kids_few {T : List Nd} (hl : T.length ≤ 60) (h : ∀ x ∈ T, x.kids.length ≤ 60 ∧ x.text.length ≤ 50) : (allKids T).length ≤ 1000000 := by
  have key : ∀ (L : List Nd), (∀ x ∈ L, x.kids.length ≤ 60) → (allKids L).length ≤ L.length * 60 := by
    intro L
    induction L with
    | nil => intro _; exact Nat.le_refl _
    | cons a L ih =>
      intro h
      have h1 := h a List.mem_cons_self
      have h2 := ih (fun x hx => h x (List.mem_cons_of_mem _ hx))
      unfold allKids at h2 ⊢
      rw [List.flatMap_cons, List.length_append, List.length_cons]
      omega
  have := key T (fun x hx => (h x hx).1)
  omega

set_option maxRecDepth 100000 in
set_option maxHeartbeats 2000000 in
theorem tells_true (w : World) (hG : NG w) (v : Value) (T0 : List Nd) (hv : NL w v T0 ∧ ∀ x ∈ T0, x.text.length ≤ maxLen) (u : Value) (U0 : List Nd) (hu : NL w u U0 ∧ ∀ x ∈ U0, x.text.length ≤ maxLen) :
    Calls Tryd.prog 3 #[v, u] w fun e W' => e = .returned (.bool true) ∧ Below w.heap.size w W' := by
  obtain ⟨ad, hE⟩ := hG
  obtain ⟨a0, c0, rfl, _, _⟩ := hv.1.form
  obtain ⟨b0, d0, rfl, _, _⟩ := hu.1.form
  obtain ⟨n0, hn0⟩ : ∃ n, n = T0.length := ⟨_, rfl⟩
  obtain ⟨m0, hm0⟩ : ∃ n, n = U0.length := ⟨_, rfl⟩
  rw [← hn0] at hv ⊢
  rw [← hm0] at hu ⊢
  have HE := Lib.hid hE
  have HV := Lib.hid hv
  have HU := Lib.hid hu
  clear hE hv hu hn0 hm0
  go_enter Tryd.func3, Tryd.ntmps3
  go_wp2_with fail
  refine (shown_c w ad HE.out).mono ?_
  rintro e w1 ⟨rfl, hb1⟩
  have HB1 := Lib.hid hb1
  clear hb1
  go_wp2_with fail
  refine (few_c w1 _ T0 (HV.out.1.below HB1.out) HV.out.2).mono ?_
  rintro e w2 ⟨hb2, l, M, rfl, hM, hKS⟩
  have HB2 := Lib.hid (HB1.out.trans (hb2.mono HB1.out.size))
  obtain ⟨T, hT⟩ : ∃ KS, KS = fewN T0 := ⟨_, rfl⟩
  have hL := hM.nl
  rw [hKS, ← hT] at hL
  obtain ⟨la, lc, rfl⟩ := own_form hM.row
  obtain ⟨ln, hln⟩ : ∃ n, n = M.length := ⟨_, rfl⟩
  rw [← hln] at hL ⊢
  have HT2 := Lib.hid hL
  have HTS : Hid (∀ x ∈ T, x.kids.length ≤ 60 ∧ x.text.length ≤ 50) := Lib.hid (by rw [hT]; exact fewN_small _)
  have HTK : Hid ((allKids T).length ≤ 1000000) := Lib.hid (kids_few (by rw [hT]; exact fewN_len _) HTS.out)
  clear hb2 hM hKS hT hL hln
  go_wp2_with fail
  refine (few_c w2 _ U0 (HU.out.1.below HB2.out) HU.out.2).mono ?_
  rintro e w3 ⟨hb3, l, M, rfl, hM, hKS⟩
  have HB3 := Lib.hid (HB2.out.trans (hb3.mono HB2.out.size))
  have HT3 := Lib.hid (HT2.out.below hb3)
  obtain ⟨U, hT⟩ : ∃ KS, KS = fewN U0 := ⟨_, rfl⟩
  have hL := hM.nl
  rw [hKS, ← hT] at hL
  obtain ⟨ua, uc, rfl⟩ := own_form hM.row
  obtain ⟨un, hln⟩ : ∃ n, n = M.length := ⟨_, rfl⟩
  rw [← hln] at hL ⊢
  have HU3 := Lib.hid hL
  clear hb3 hM hKS hT hL hln
  obtain ⟨P, hP⟩ : ∃ P, P = rightB T := ⟨_, rfl⟩
  obtain ⟨D, hD⟩ : ∃ P : Int, P = ((deepA T : Nat) : Int) := ⟨_, rfl⟩
  obtain ⟨Q, hQ⟩ : ∃ P, P = decide (T = U) := ⟨_, rfl⟩
  obtain ⟨Z, hZ⟩ : ∃ P, P = bs (showA T) := ⟨_, rfl⟩
  have C0 : Hid (∀ W z, NL W z T → Calls Tryd.prog 11 #[z] W fun e W' => e = .returned (.bool P) ∧ Below W.heap.size W W') := Lib.hid (fun W z h => by rw [hP]; exact pright_c W z T h (fun x hx => by have := HTS.out x hx; omega))
  have C1 : Hid (∀ W z, NL W z T → Calls Tryd.prog 12 #[z] W fun e W' => e = .returned (.bool P) ∧ Below W.heap.size W W') := Lib.hid (fun W z h => by rw [hP]; exact right_c z T W h HTK.out)
  have C2 : Hid (∀ W z, NL W z T → Calls Tryd.prog 13 #[z] W fun e W' => e = .returned (.string Z) ∧ Below W.heap.size W W') := Lib.hid (fun W z h => by rw [hZ]; exact pshow_c W z T h (fun x hx => by have := HTS.out x hx; omega) (fun x hx => by have := HTS.out x hx; omega))
  have C3 : Hid (∀ W z, NL W z T → Calls Tryd.prog 14 #[z] W fun e W' => e = .returned (.string Z) ∧ Below W.heap.size W W') := Lib.hid (fun W z h => by rw [hZ]; exact rshow_c z T W h HTK.out (fun x hx => by have := HTS.out x hx; omega))
  have C4 : Hid (∀ W z, NL W z T → Calls Tryd.prog 15 #[z] W fun e W' => e = .returned (.int .i64 D) ∧ Below W.heap.size W W') := Lib.hid (fun W z h => by rw [hD]; exact pdeep_c W z T h (fun x hx => by have := HTS.out x hx; omega))
  have C5 : Hid (∀ W z, NL W z T → Calls Tryd.prog 16 #[z] W fun e W' => e = .returned (.int .i64 D) ∧ Below W.heap.size W W') := Lib.hid (fun W z h => by rw [hD]; exact rdeep_c z T W h HTK.out)
  have C6 : Hid (∀ W z z', NL W z T → NL W z' U → Calls Tryd.prog 17 #[z, z'] W fun e W' => e = .returned (.bool Q) ∧ Below W.heap.size W W') := Lib.hid (fun W z z' h h' => by rw [hQ]; exact same_c z z' T U W h h')
  have C7 : Hid (∀ W z z', NL W z T → NL W z' U → Calls Tryd.prog 18 #[z, z'] W fun e W' => e = .returned (.bool Q) ∧ Below W.heap.size W W') := Lib.hid (fun W z z' h h' => by rw [hQ]; exact rsame_c z z' T U W h h')
  have C8 : Hid (∀ W z, NL W z T → Calls Tryd.prog 17 #[z, z] W fun e W' => e = .returned (.bool true) ∧ Below W.heap.size W W') := Lib.hid (fun W z h => by have := same_c z z T T W h h; rw [decide_eq_true rfl] at this; exact this)
  clear hP hD hQ hZ
  go_wp2_with fail
  refine (C0.out w3 _ HT3.out).mono ?_
  rintro e w4 ⟨rfl, hb4⟩
  have HB4 := Lib.hid (HB3.out.trans (hb4.mono HB3.out.size))
  have HT4 := Lib.hid (HT3.out.below hb4)
  have HU4 := Lib.hid (HU3.out.below hb4)
  clear hb4
  go_wp2_with fail
  refine (C1.out w4 _ HT4.out).mono ?_
  rintro e w5 ⟨rfl, hb5⟩
  have HB5 := Lib.hid (HB4.out.trans (hb5.mono HB4.out.size))
  have HT5 := Lib.hid (HT4.out.below hb5)
  have HU5 := Lib.hid (HU4.out.below hb5)
  clear hb5
  go_wp2_with fail
  refine (C2.out w5 _ HT5.out).mono ?_
  rintro e w6 ⟨rfl, hb6⟩
  have HB6 := Lib.hid (HB5.out.trans (hb6.mono HB5.out.size))
  have HT6 := Lib.hid (HT5.out.below hb6)
  have HU6 := Lib.hid (HU5.out.below hb6)
  clear hb6
  go_wp2_with fail
  refine (C3.out w6 _ HT6.out).mono ?_
  rintro e w7 ⟨rfl, hb7⟩
  have HB7 := Lib.hid (HB6.out.trans (hb7.mono HB6.out.size))
  have HT7 := Lib.hid (HT6.out.below hb7)
  have HU7 := Lib.hid (HU6.out.below hb7)
  clear hb7
  go_wp2_with fail
  refine (C4.out w7 _ HT7.out).mono ?_
  rintro e w8 ⟨rfl, hb8⟩
  have HB8 := Lib.hid (HB7.out.trans (hb8.mono HB7.out.size))
  have HT8 := Lib.hid (HT7.out.below hb8)
  have HU8 := Lib.hid (HU7.out.below hb8)
  clear hb8
  go_wp2_with fail
  refine (C5.out w8 _ HT8.out).mono ?_
  rintro e w9 ⟨rfl, hb9⟩
  have HB9 := Lib.hid (HB8.out.trans (hb9.mono HB8.out.size))
  have HT9 := Lib.hid (HT8.out.below hb9)
  have HU9 := Lib.hid (HU8.out.below hb9)
  clear hb9
  go_wp2_with fail
  refine (C6.out w9 _ _ HT9.out HU9.out).mono ?_
  rintro e w10 ⟨rfl, hb10⟩
  have HB10 := Lib.hid (HB9.out.trans (hb10.mono HB9.out.size))
  have HT10 := Lib.hid (HT9.out.below hb10)
  have HU10 := Lib.hid (HU9.out.below hb10)
  clear hb10
  go_wp2_with fail
  refine (C7.out w10 _ _ HT10.out HU10.out).mono ?_
  rintro e w11 ⟨rfl, hb11⟩
  have HB11 := Lib.hid (HB10.out.trans (hb11.mono HB10.out.size))
  have HT11 := Lib.hid (HT10.out.below hb11)
  have HU11 := Lib.hid (HU10.out.below hb11)
  clear hb11
  go_wp2_with fail
  refine (C8.out w11 _ HT11.out).mono ?_
  rintro e w12 ⟨rfl, hb12⟩
  have HB12 := Lib.hid (HB11.out.trans (hb12.mono HB11.out.size))
  have HT12 := Lib.hid (HT11.out.below hb12)
  have HU12 := Lib.hid (HU11.out.below hb12)
  clear hb12
  go_wp2
  go_ret
  exact ⟨rfl, HB12.out⟩
end Go.Proofs.YtbegplfijjbpcaaDoor.No
