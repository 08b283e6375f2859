/- The law NodeShows. Written by gen/mkshows.py. -/
import Derived.Test.YtbegplfijjbpcaaDoorNqCf
import Derived.Test.YtbegplfijjbpcaaDoorNoC
import Derived.Test.YtbegplfijjbpcaaDoorNqSame
namespace Go.Proofs.YtbegplfijjbpcaaDoor.No
open Go Go.RowKit Go.Shelf
attribute [local go_sem] Oper.semAt_some

theorem join_kind {a : Int} {X : List UInt8} {KS : List (List Nd)} (h : RightT (joinL a X KS)) : 1 ≤ a ∧ a ≤ 14 := by
  rw [join_eq] at h
  have := form_kind (h.node (partsL KS 0).length ⟨a, X, rootsL KS 0⟩ (root_at _ _)).1
  exact this
theorem join_same {a b : Int} {X Y : List UInt8} {KS : List (List Nd)} : joinL a X KS = joinL b Y KS ↔ a = b ∧ X = Y := by
  rw [join_eq, join_eq]
  constructor
  · intro h
    have := List.append_cancel_left h
    simp at this
    exact this
  · rintro ⟨rfl, rfl⟩
    rfl
theorem join_show {a b : Int} {X Y : List UInt8} {KS : List (List Nd)} (h1 : RightT (joinL a X KS)) (h2 : RightT (joinL b Y KS)) : showA (joinL a X KS) = showA (joinL b Y KS) ↔ a = b ∧ X = Y := by
  have k1 := join_kind h1
  have k2 := join_kind h2
  rw [join_eq] at h1
  rw [join_eq] at h2
  rw [join_eq, join_eq, show_same (r := ⟨a, X, rootsL KS 0⟩) (s := ⟨b, Y, rootsL KS 0⟩) rfl h1 h2 k1 k2]
  simp
theorem bs_beq {A B : List UInt8} {P : Prop} [Decidable P] (h : A = B ↔ P) : ((bs A).toList == (bs B).toList) = decide P := by
  rw [bs_eq]
  exact decide_eq_decide.2 h
theorem bs_empty {A : List UInt8} (h : A ≠ []) : (bs A).toList.isEmpty = false := by
  rw [ByteArray.toList_eq, bs_list]
  cases A with
  | nil => exact absurd rfl h
  | cons a T => rfl
/-- A JOINED TREE IS KNOWN: an answer and what it is. -/
theorem OUT.join {w W' : World} {e : Ending} {k : Int} {X : List UInt8} {KS : List (List Nd)} (h : OUT w W' e (joinA k X KS)) : (∃ q n cap, e = .returned (.tuple #[.slice (some ⟨q, 0, none⟩) n cap, .int .i64 0]) ∧ NL W' (.slice (some ⟨q, 0, none⟩) n cap) (joinL k X KS) ∧ n = (joinL k X KS).length ∧ RightT (joinL k X KS) ∧ (∀ K ∈ KS, RightT K) ∧ joinA k X KS = (joinL k X KS, 0)) ∨ (e = .returned (.tuple #[.slice none 0 0, .int .i64 70]) ∧ joinA k X KS = ([], 70)) := by
  by_cases h0 : (joinA k X KS).2 = 0
  · obtain ⟨h1, h2, h3⟩ := joinA_ok h0
    have hj : joinA k X KS = (joinL k X KS, 0) := Prod.ext h1 h0
    rw [hj] at h
    obtain ⟨q, cap, rfl, hN⟩ := h.yes
    exact .inl ⟨q, _, cap, rfl, hN, rfl, h2, h3, hj⟩
  · have hj := joinA_no h0
    rw [hj] at h
    exact .inr ⟨h.no, hj⟩
/-- What is joined is small. -/
theorem parts_small {KS : List (List Nd)} (h : ∀ K ∈ KS, ∀ x ∈ K, x.kids.length ≤ 60 ∧ x.text.length ≤ 50) : ∀ off, ∀ x ∈ partsL KS off, x.kids.length ≤ 60 ∧ x.text.length ≤ 50 := by
  induction KS with
  | nil => intro off x hx; cases hx
  | cons K KS ih =>
    intro off x hx
    unfold partsL at hx
    rcases List.mem_append.1 hx with hx | hx
    · obtain ⟨y, hy, rfl⟩ := List.mem_map.1 hx
      have := h K (List.mem_cons_self) y hy
      exact ⟨by rw [mov_kids, List.length_map]; exact this.1, this.2⟩
    · exact ih (fun K hK => h K (List.mem_cons_of_mem _ hK)) _ x hx
theorem join_small {a : Int} {X : List UInt8} {KS : List (List Nd)} (hX : X.length ≤ 50) (hl : KS.length ≤ 4) (h : ∀ K ∈ KS, ∀ x ∈ K, x.kids.length ≤ 60 ∧ x.text.length ≤ 50) : ∀ x ∈ joinL a X KS, x.kids.length ≤ 60 ∧ x.text.length ≤ 50 := by
  intro x hx
  rw [join_eq] at hx
  rcases List.mem_append.1 hx with hx | hx
  · exact parts_small h 0 x hx
  · obtain rfl := List.mem_singleton.1 hx
    exact ⟨by show (rootsL KS 0).length ≤ 60; rw [roots_len]; omega, hX⟩

set_option maxRecDepth 100000 in
set_option maxHeartbeats 2000000 in
theorem shows_true (w : World) (hG : NG w) (a : Int) (b : Int) (s : ByteArray) (hs : s.size ≤ maxLen) (u : ByteArray) (hu : u.size ≤ maxLen) (v : Value) (KS0 : List (List Nd)) (hv : LL w v KS0 ∧ ∀ K ∈ KS0, ∀ x ∈ K, x.text.length ≤ maxLen) :
    Calls Tryd.prog 6 #[.int .i64 a, .int .i64 b, .string s, .string u, v] w fun e W' => e = .returned (.bool true) ∧ Below w.heap.size w W' := by
  obtain ⟨ad, hE⟩ := hG
  obtain ⟨a0, c0, rfl, _, _⟩ := hv.1.form
  obtain ⟨n0, hn0⟩ : ∃ n, n = KS0.length := ⟨_, rfl⟩
  rw [← hn0] at hv ⊢
  have HE := Lib.hid hE
  have HV := Lib.hid hv
  have HSZ := Lib.hid hs
  have HUZ := Lib.hid hu
  obtain ⟨X, hX⟩ : ∃ X, X = cut5 s := ⟨_, rfl⟩
  obtain ⟨Y, hY⟩ : ∃ X, X = cut5 u := ⟨_, rfl⟩
  have HXE := Lib.hid hX
  have HYE := Lib.hid hY
  have HXL : Hid (X.length ≤ 50) := Lib.hid (by rw [hX]; exact cut5_len s)
  have HYL : Hid (Y.length ≤ 50) := Lib.hid (by rw [hY]; exact cut5_len u)
  obtain ⟨SX, hSX⟩ : ∃ B, B = bs X := ⟨_, rfl⟩
  obtain ⟨SY, hSY⟩ : ∃ B, B = bs Y := ⟨_, rfl⟩
  have HSX := Lib.hid hSX
  have HSY := Lib.hid hSY
  have CS : Hid (∀ W, Calls Tryd.prog 21 #[.string s] W fun e W' => e = .returned (.string SX) ∧ W' = W) := Lib.hid (fun W => by rw [hSX, hX]; exact cut_c s hs W)
  have CU : Hid (∀ W, Calls Tryd.prog 21 #[.string u] W fun e W' => e = .returned (.string SY) ∧ W' = W) := Lib.hid (fun W => by rw [hSY, hY]; exact cut_c u hu W)
  clear hE hs hu hX hY hSX hSY hv hn0
  go_enter Tryd.func6, Tryd.ntmps6
  go_wp2_with fail
  refine (shown_c w ad HE.out).mono ?_
  rintro e w1 ⟨rfl, hb1⟩
  have HB1 := Lib.hid hb1
  clear hb1
  go_wp2_with fail
  refine (some_c w1 _ KS0 (HV.out.1.below HB1.out) HV.out.2).mono ?_
  rintro e w2 ⟨hb2, l, M, rfl, hM, hKS⟩
  have HB2 := Lib.hid (HB1.out.trans (hb2.mono HB1.out.size))
  obtain ⟨KS, hKE⟩ : ∃ KS, KS = someN KS0 := ⟨_, rfl⟩
  have hL := hM.ll
  rw [hKS, ← hKE] at hL
  obtain ⟨la, lc, rfl⟩ := own_form hM.row
  obtain ⟨ln, hln⟩ : ∃ n, n = M.length := ⟨_, rfl⟩
  rw [← hln] at hL ⊢
  have HL2 := Lib.hid hL
  have HKL : Hid (KS.length ≤ 4) := Lib.hid (by rw [hKE]; exact someN_len _)
  have HKS : Hid (∀ K ∈ KS, ∀ x ∈ K, x.kids.length ≤ 60 ∧ x.text.length ≤ 50) := Lib.hid (by rw [hKE]; exact fun K hK => (someN_small _ K hK).2)
  have JX : Hid (∀ W k, EN W ad → LL W (.slice la ln lc) KS → Calls Tryd.prog 23 #[.int .i64 k, .string SX, .slice la ln lc] W fun e W' => Below W.heap.size W W' ∧ OUT W W' e (joinA k X KS)) := Lib.hid (fun W k h1 h2 => by rw [HSX.out]; exact pjoin_c W k X _ KS h2 (by have := HKL.out; omega) (by have := HXL.out; omega) (fun K hK x hx => by have := HKS.out K hK x hx; omega) ad h1)
  have JY : Hid (∀ W k, EN W ad → LL W (.slice la ln lc) KS → Calls Tryd.prog 23 #[.int .i64 k, .string SY, .slice la ln lc] W fun e W' => Below W.heap.size W W' ∧ OUT W W' e (joinA k Y KS)) := Lib.hid (fun W k h1 h2 => by rw [HSY.out]; exact pjoin_c W k Y _ KS h2 (by have := HKL.out; omega) (by have := HYL.out; omega) (fun K hK x hx => by have := HKS.out K hK x hx; omega) ad h1)
  clear hb2 hM hKS hKE hL hln
  go_wp2_with fail
  refine (CS.out w2).mono ?_
  rintro e w2' ⟨rfl, rfl⟩
  go_wp2_with fail
  refine (JX.out w2' a (HE.out.below HB2.out) HL2.out).mono ?_
  rintro e w3 ⟨hb3, ho3⟩
  have HB3 := Lib.hid (HB2.out.trans (hb3.mono HB2.out.size))
  have HL3 := Lib.hid (HL2.out.below hb3)
  have ho3' := ho3.join
  clear hb3 ho3
  rcases ho3' with ⟨qx, nx, cx, rfl, hNx, -, hRx, -⟩ | ⟨rfl, -⟩
  · have HX3 := Lib.hid hNx
    have HRX := Lib.hid hRx
    clear hNx hRx
    go_wp2_with fail
    refine (CU.out w3).mono ?_
    rintro e w3' ⟨rfl, rfl⟩
    go_wp2_with fail
    refine (JY.out w3' b (HE.out.below HB3.out) HL3.out).mono ?_
    rintro e w4 ⟨hb4, ho4⟩
    have HB4 := Lib.hid (HB3.out.trans (hb4.mono HB3.out.size))
    have HX4 := Lib.hid (HX3.out.below hb4)
    have ho4' := ho4.join
    clear hb4 ho4
    rcases ho4' with ⟨qy, ny, cy, rfl, hNy, -, hRy, -⟩ | ⟨rfl, -⟩
    · have HY4 := Lib.hid hNy
      have hsx : ∀ x ∈ joinL a X KS, x.kids.length ≤ 60 ∧ x.text.length ≤ 50 := join_small HXL.out HKL.out HKS.out
      have hsy : ∀ x ∈ joinL b Y KS, x.kids.length ≤ 60 ∧ x.text.length ≤ 50 := join_small HYL.out HKL.out HKS.out
      obtain ⟨XL, hXL⟩ : ∃ L, L = joinL a X KS := ⟨_, rfl⟩
      obtain ⟨YL, hYL⟩ : ∃ L, L = joinL b Y KS := ⟨_, rfl⟩
      obtain ⟨P, hP⟩ : ∃ P, P = decide (a = b ∧ X = Y) := ⟨_, rfl⟩
      have hRx := HRX.out
      have HDP : Hid (decide (XL = YL) = P) := Lib.hid (by rw [hXL, hYL, hP]; exact decide_eq_decide.2 join_same)
      obtain ⟨ZX, hZX⟩ : ∃ L, L = bs (showA XL) := ⟨_, rfl⟩
      obtain ⟨ZY, hZY⟩ : ∃ L, L = bs (showA YL) := ⟨_, rfl⟩
      have hzz : (ZX.toList == ZY.toList) = P := by rw [hZX, hZY, hP, hXL, hYL]; exact bs_beq (join_show hRx hRy)
      have hze : ZX.toList.isEmpty = false := by rw [hZX]; exact bs_empty (by rw [hXL]; exact show_ne hRx)
      rw [← hXL] at HX4 hsx
      rw [← hYL] at HY4 hsy
      have HZZ := Lib.hid hzz
      have HZE := Lib.hid hze
      have SHX : Hid (∀ W z, NL W z XL → Calls Tryd.prog 13 #[z] W fun e W' => e = .returned (.string ZX) ∧ Below W.heap.size W W') := Lib.hid (fun W z h => by rw [hZX]; exact pshow_c W z XL h (fun x hx => by have := hsx x hx; omega) (fun x hx => by have := hsx x hx; omega))
      have SHY : Hid (∀ W z, NL W z YL → Calls Tryd.prog 13 #[z] W fun e W' => e = .returned (.string ZY) ∧ Below W.heap.size W W') := Lib.hid (fun W z h => by rw [hZY]; exact pshow_c W z YL h (fun x hx => by have := hsy x hx; omega) (fun x hx => by have := hsy x hx; omega))
      have SM : Hid (∀ W {z z'}, NL W z XL → NL W z' YL → Calls Tryd.prog 17 #[z, z'] W fun e W' => e = .returned (.bool P) ∧ Below W.heap.size W W') := Lib.hid (fun W z z' h h' => by rw [← HDP.out]; exact same_c z z' XL YL W h h')
      have HPE := Lib.hid hP
      clear hsx hsy hXL hYL hRx hRy hZX hZY hzz hze hNy hP
      go_wp2_with fail
      refine (SHX.out w4 _ HX4.out).mono ?_
      rintro e w5 ⟨rfl, hb5⟩
      have HB5 := Lib.hid (HB4.out.trans (hb5.mono HB4.out.size))
      have HX5 := Lib.hid (HX4.out.below hb5)
      have HY5 := Lib.hid (HY4.out.below hb5)
      clear hb5
      go_wp2_with fail
      refine (SHY.out w5 _ HY5.out).mono ?_
      rintro e w6 ⟨rfl, hb6⟩
      have HB6 := Lib.hid (HB5.out.trans (hb6.mono HB5.out.size))
      have HX6 := Lib.hid (HX5.out.below hb6)
      have HY6 := Lib.hid (HY5.out.below hb6)
      clear hb6
      have hz2 := HZZ.out
      go_wp2_with fail
      refine (SM.out w6 HX6.out HY6.out).mono ?_
      rintro e w7 ⟨rfl, hb7⟩
      have HB7 := Lib.hid (HB6.out.trans (hb7.mono HB6.out.size))
      have HX7 := Lib.hid (HX6.out.below hb7)
      have HY7 := Lib.hid (HY6.out.below hb7)
      clear hb7
      have hpp : (P == P) = true := by simp
      clear hz2
      go_wp2_with fail
      refine (SM.out w7 HX7.out HY7.out).mono ?_
      rintro e w8 ⟨rfl, hb8⟩
      have HB8 := Lib.hid (HB7.out.trans (hb8.mono HB7.out.size))
      have HX8 := Lib.hid (HX7.out.below hb8)
      have HY8 := Lib.hid (HY7.out.below hb8)
      clear hb8
      by_cases hab : a = b
      · subst hab
        have HPX : Hid ((SX.toList == SY.toList) = P) := Lib.hid (by rw [HSX.out, HSY.out, HPE.out]; exact bs_beq (by simp))
        go_wp2_with fail
        refine (CS.out w8).mono ?_
        rintro e w8' ⟨rfl, rfl⟩
        go_wp2_with fail
        refine (CU.out w8').mono ?_
        rintro e w8'' ⟨rfl, rfl⟩
        have hpx := HPX.out
        go_wp2_with fail
        refine (SHX.out w8'' _ HX8.out).mono ?_
        rintro e w9 ⟨rfl, hb9⟩
        have HB9 := Lib.hid (HB8.out.trans (hb9.mono HB8.out.size))
        have HX9 := Lib.hid (HX8.out.below hb9)
        have HY9 := Lib.hid (HY8.out.below hb9)
        clear hb9
        have hz9 := HZE.out
        go_wp2
        go_ret
        exact ⟨rfl, HB9.out⟩
      · obtain rfl : P = false := by rw [HPE.out]; exact decide_eq_false (fun h => hab h.1)
        have hq : (a == b) = false := by simp; exact hab
        go_wp2_with fail
        refine (SHX.out w8 _ HX8.out).mono ?_
        rintro e w9 ⟨rfl, hb9⟩
        have HB9 := Lib.hid (HB8.out.trans (hb9.mono HB8.out.size))
        have HX9 := Lib.hid (HX8.out.below hb9)
        have HY9 := Lib.hid (HY8.out.below hb9)
        clear hb9
        have hz9 := HZE.out
        go_wp2
        go_ret
        exact ⟨rfl, HB9.out⟩
    · go_wp2
      go_ret
      exact ⟨rfl, HB4.out⟩
  · go_wp2_with fail
    refine (CU.out w3).mono ?_
    rintro e w3' ⟨rfl, rfl⟩
    go_wp2_with fail
    refine (JY.out w3' b (HE.out.below HB3.out) HL3.out).mono ?_
    rintro e w4 ⟨hb4, ho4⟩
    have HB4 := Lib.hid (HB3.out.trans (hb4.mono HB3.out.size))
    have ho4' := ho4.join
    clear hb4 ho4
    rcases ho4' with ⟨qy, ny, cy, rfl, hNy, -, hRy, -⟩ | ⟨rfl, -⟩
    · clear hNy hRy
      go_wp2
      go_ret
      exact ⟨rfl, HB4.out⟩
    · go_wp2
      go_ret
      exact ⟨rfl, HB4.out⟩
end Go.Proofs.YtbegplfijjbpcaaDoor.No
