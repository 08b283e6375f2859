/- The statement LexRest, as a call. -/
import Derived.Test.YthnnjogkomhmfaaDoorLxShown
import Derived.Test.YthnnjogkomhmfaaDoorLxSame
import Derived.Laws.AppendOwnNone
import Derived.Laws.StructEq
namespace Go.Proofs.YthnnjogkomhmfaaDoor
open Go Go.RowKit Go.Shelf
attribute [local go_sem] Oper.semAt_some

theorem rest_cells {W : World} {base g cap : Nat} {M : List Tk} (h : OwnL W base (.slice (some ⟨g, 0, none⟩) M.length cap) M) : ∀ (j : Nat) (u : Value), (cellsL M)[j]? = some u → W.cell? ((⟨g, 0, none⟩ : Addr).add j) = some u := fun j u hj => by
  have hl : j < M.length * 3 := by
    have := (List.getElem?_eq_some_iff.1 hj).1
    rw [cellsL_len] at this
    exact this
  have := World.ownsRow.cellAt h j hl
  rw [hj] at this
  have e : (⟨g, 0, none⟩ : Addr).add j = ⟨g, j, none⟩ := by
    simp [Addr.add]
    try (intro h; exact h.symm)
  rw [e]
  exact this
theorem rest_cells2 {W : World} {base g cap m : Nat} {M : List Tk} (hm : m = M.length) (h : W.ownsRow base 30 3 (.slice (some ⟨g, 0, none⟩) m cap) m (cellsL M)) : ∀ (j : Nat) (u : Value), (cellsL M)[j]? = some u → W.cell? ((⟨g, 0, none⟩ : Addr).add j) = some u := by
  subst hm
  exact rest_cells h
theorem rest_tl {W : World} {base g cap m : Nat} {t : Tk} {M : List Tk} {cs : List Value} (h : W.ownsRow base 30 3 (.slice (some ⟨g, 0, none⟩) (0 + 1 + m) cap) (0 + 1 + m) (cs ++ cellsL M)) (hcs : tokL t = cs) (hm : m = M.length) (hl : M.length + 1 ≤ maxLen) :
    TL W (.slice (some ⟨g, 0, none⟩) (0 + 1 + m) cap) (t :: M) := by
  subst hm
  subst hcs
  have e : 0 + 1 + M.length = (t :: M).length := by simp; omega
  rw [e] at h ⊢
  exact OwnL.tl (L := t :: M) (by simpa using hl) h
theorem cellsL_one (L : List Tk) : ∀ u ∈ cellsL L, u.oneCell' = true := by
  intro u hu
  unfold cellsL at hu
  obtain ⟨t, _, ht⟩ := List.mem_flatMap.1 hu
  exact tokL_one t u ht

theorem rest_tl0 {W : World} {base g cap m : Nat} {t : Tk} {M : List Tk} {cs : List Value} (h : W.ownsRow base 30 3 (.slice (some ⟨g, 0, none⟩) (0 + 1) cap) (0 + 1) ([] ++ cs)) (hcs : tokL t = cs) (hm : m = M.length) (hm0 : m = 0) :
    TL W (.slice (some ⟨g, 0, none⟩) (0 + 1) cap) (t :: M) := by
  subst hcs
  obtain rfl : M = [] := List.length_eq_zero_iff.1 (hm.symm.trans hm0)
  refine OwnL.tl (L := [t]) (by unfold maxLen; simp) (base := base) ?_
  have e : cellsL [t] = [] ++ tokL t := by simp [cellsL]
  show World.ownsRow _ _ _ _ _ _ _
  rw [e]
  exact h

set_option maxRecDepth 100000 in
set_option maxHeartbeats 400000 in
theorem rest_true (w : World) (hG : LG w) (x : ByteArray) (hx : x.size ≤ maxLen) :
    Calls Tryd.prog 5 #[.string x] w fun e W' => e = .returned (.bool true) ∧ Below w.heap.size w W' := by
  obtain ⟨i0, hi, hz0, hz1, hz2⟩ := info_tok
  obtain ⟨C, hC⟩ : ∃ C, C = cutT x.data.toList := ⟨_, rfl⟩
  have hcl : C.length ≤ 10000 := by rw [hC]; have := cutT_len x.data.toList; omega
  have hcut := fun W => cut_c x hx W
  rw [← hC] at hcut
  have HCUT := Lib.hid hcut
  have HL := Lib.hid (fun W h => line_c C hcl W h)
  have HF := Lib.hid (fun W h => lfirst_c C hcl W h)
  have HSH := Lib.hid (fun W h => shown_c W h)
  have HG := Lib.hid hG
  clear hcut hC hG hx
  by_cases hC0 : C = []
  · subst hC0
    have HF0 : Hid (∀ W, LG W → Calls Tryd.prog 19 #[.string ⟨#[]⟩] W fun e W' => e = .returned (.tuple #[.agg #[.int .i64 0, .string ⟨#[]⟩, .string ⟨#[]⟩], .bool false]) ∧ Below W.heap.size W W') := Lib.hid HF.out
    have HL0 : Hid (∀ W, LG W → Calls Tryd.prog 18 #[.string ⟨#[]⟩] W fun e W' => ∃ a0 c0, e = .returned (.slice a0 0 c0) ∧ Below W.heap.size W W') := Lib.hid fun W h => (HL.out W h).mono fun e W' ⟨v, h1, h2, h3⟩ => by
      rw [toks_nil] at h2
      obtain ⟨a0, c0, h4, _⟩ := h2.form
      exact ⟨a0, c0, by rw [h1, h4]; rfl, h3⟩
    have HC0 : Hid (∀ W, Calls Tryd.prog 17 #[.string x] W fun e W' => e = .returned (.string ⟨#[]⟩) ∧ W' = W) := Lib.hid HCUT.out
    clear HF HL HCUT hcl
    go_enter Tryd.func5, Tryd.ntmps5
    go_wp2_with (first
      | (go_at_call 9; refine (HSH.out w HG.out).mono ?_; rintro e w1 ⟨rfl, hb1⟩; have G1 := Lib.hid (HG.out.below hb1); have B1 := Lib.hid hb1; clear hb1)
      | (go_at_call 17; refine (HC0.out _).mono ?_; rintro e w2 ⟨rfl, hw2⟩; obtain rfl := hw2.symm; clear hw2)
      | (go_at_call 18; refine (HL0.out _ G1.out).mono ?_; rintro e w3 ⟨a0, c0, rfl, hb3⟩; have G3 := Lib.hid (G1.out.below hb3); have B3 := Lib.hid (B1.out.trans (hb3.mono B1.out.size)); clear hb3)
      | (go_at_call 19; refine (HF0.out _ G3.out).mono ?_; rintro e w4 ⟨rfl, hb4⟩; have B4 := Lib.hid (B3.out.trans (hb4.mono B3.out.size)); clear hb4))
    go_ret
    exact ⟨rfl, B4.out.alloc B4.out.size _⟩
  · obtain ⟨s, hs⟩ : ∃ s, s = bs C := ⟨_, rfl⟩
    obtain ⟨t, ht⟩ : ∃ t, t = tk1 st C := ⟨_, rfl⟩
    have hft : firstT C = t := by unfold firstT; rw [if_neg hC0, ht]
    obtain ⟨hl1, hl2, _⟩ := tk1_len st st_ok hC0
    rw [← ht] at hl1 hl2
    have htc := toks_cons st st_ok hC0
    rw [← ht] at htc
    obtain ⟨D, hD⟩ : ∃ D, D = C.drop t.text.length := ⟨_, rfl⟩
    have hDl : D.length ≤ 10000 := by rw [hD, List.length_drop]; omega
    have HD := Lib.hid (fun W h => line_own D hDl W h)
    obtain ⟨kd, hkd⟩ : ∃ kd : Int, kd = ((t.kind : Nat) : Int) := ⟨_, rfl⟩
    obtain ⟨U, hU⟩ : ∃ U, U = bs t.text := ⟨_, rfl⟩
    obtain ⟨G, hGl⟩ : ∃ G, G = bs t.glyph := ⟨_, rfl⟩
    obtain ⟨R, hR⟩ : ∃ R, R = bs D := ⟨_, rfl⟩
    have hUs : U.size = t.text.length := by rw [hU, bs_size]
    have hss : s.size = C.length := by rw [hs, bs_size]
    have hxr : s.extract U.size s.size = R := by rw [hUs, hs, ext_drop, hR, hD]
    have htv : tokV t = .agg #[.int .i64 kd, .string U, .string G] := by rw [hkd, hU, hGl]; rfl
    have htl : tokL t = [.int .i64 kd, .string U, .string G] := by rw [hkd, hU, hGl]; rfl
    have hem : (!C.isEmpty) = true := by
      cases C with
      | nil => exact absurd rfl hC0
      | cons a r => rfl
    have hUS : U.size ≤ s.size := by omega
    have hSS : s.size ≤ 10000 := by omega
    rw [hft, htv, hem] at HF
    rw [← hs] at HF HL HCUT
    rw [← hR] at HD
    obtain ⟨M, hM⟩ : ∃ M, M = toks st D 0 := ⟨_, rfl⟩
    obtain ⟨L, hLL⟩ : ∃ L, L = toks st C 0 := ⟨_, rfl⟩
    rw [← hD, ← hM, ← hLL] at htc
    rw [← hM] at HD
    rw [← hLL] at HL
    have hMl : M.length ≤ 10000 := by rw [hM]; exact Nat.le_trans (toks_len st st_ok D.length D (Nat.le_refl _)) hDl
    have HTC := Lib.hid htc
    have HTL := Lib.hid htl
    have HXR := Lib.hid hxr
    have HML := Lib.hid hMl
    have HONE : Hid (∀ u ∈ [Value.int .i64 kd, .string U, .string G], u.oneCell' = true) := Lib.hid (by intro u hu; simp at hu; rcases hu with rfl | rfl | rfl <;> rfl)
    have HMN := Lib.hid (cellsL_one M)
    have hLn : L.length = M.length + 1 := by rw [htc]; rfl
    obtain ⟨m, hm⟩ : ∃ m, m = M.length := ⟨_, rfl⟩
    have HM := Lib.hid hm
    have HMC : Hid ((cellsL M).length = m * 3) := Lib.hid (by rw [hm]; exact cellsL_len M)
    have HLEN : Hid ((0 + 1 ≤ maxLen ∧ (0 + 1) * 40 ≤ 140737488355328) ∧ (0 + 1 + m ≤ maxLen ∧ (0 + 1 + m) * 40 ≤ 140737488355328)) := Lib.hid ⟨⟨by unfold maxLen; omega, by omega⟩, ⟨by unfold maxLen; omega, by omega⟩⟩
    have hnp : ((m + 1 : Nat) : Int) > 0 := by omega
    have hSM : ∀ v u W, TL W v L → TL W u (t :: M) → Calls Tryd.prog 16 #[v, u] W fun e W' => e = .returned (.bool true) ∧ Below W.heap.size W W' := fun v u W h1 h2 => by
      have := same_c v u L (t :: M) W h1 h2
      rw [decide_eq_true htc] at this
      exact this
    have HSM := Lib.hid hSM
    clear hC0 hs ht hft hl1 hl2 htc hD hDl hkd hU hGl hR hUs hss hxr htv htl hem hM hLL hMl hSM hcl
    go_enter Tryd.func5, Tryd.ntmps5
    go_wp2_with fail
    refine (HSH.out w HG.out).mono ?_
    rintro e w1 ⟨rfl, hb1⟩
    have G1 := Lib.hid (HG.out.below hb1)
    have B1 := Lib.hid hb1
    clear hb1
    go_wp2_with (go_at_call 17; refine (HCUT.out _).mono ?_; rintro e w2 ⟨rfl, hw2⟩; obtain rfl := hw2.symm; clear hw2)
    refine (HL.out _ G1.out).mono ?_
    rintro e w3 ⟨v, rfl, hv, hb3⟩
    obtain ⟨a0, c0, rfl, hc1, hc2⟩ := hv.form
    unfold maxLen at hc2
    rw [hLn, ← hm] at hc1 hv ⊢
    have HV := Lib.hid hv
    have G3 := Lib.hid (G1.out.below hb3)
    have B3 := Lib.hid (B1.out.trans (hb3.mono B1.out.size))
    clear hv hb3 hLn hm
    go_wp2_with (go_at_call 19; refine (HF.out _ G3.out).mono ?_; rintro e w4 ⟨rfl, hb4⟩; have V4 := Lib.hid (HV.out.below hb4); have G4 := Lib.hid (G3.out.below hb4); have B4 := Lib.hid (B3.out.trans (hb4.mono B3.out.size)); clear hb4)
    rw [HXR.out]
    refine (HD.out _ (G4.out.below ((Below.refl _ _).alloc (Nat.le_refl _) _))).mono ?_
    rintro e w5 ⟨v5, rfl, hv5, hb5⟩
    have hb4a : Below w4.heap.size w4 (w4.alloc (.cells #[.int .i64 kd, .string U, .string G] 30)) := (Below.refl _ _).alloc (Nat.le_refl _) _
    have rx : Row w5 w4.heap.size 30 #[.int .i64 kd, .string U, .string G] := (Row.new w4 _ _).below hb5 (by simp)
    obtain ⟨d0, d1, d2, _, _, _⟩ := tok_cells rx
    have V5 := Lib.hid ((V4.out.below hb4a).below hb5)
    have B5 := Lib.hid (B4.out.trans ((hb4a.trans (hb5.mono (by simp))).mono B4.out.size))
    have hv5' : w5.ownsRow _ 30 3 v5 M.length (cellsL M) := hv5
    rw [← HM.out] at hv5'
    clear hv5 rx hb5 hb4a
    have V6 := Lib.hid (V5.out.below ((Below.refl _ w5).alloc (Nat.le_refl _) (.cells #[.int .i64 kd, .string U, .string G] 30)))
    have B6 := Lib.hid (B5.out.alloc B5.out.size (.cells #[.int .i64 kd, .string U, .string G] 30))
    have O5 := Lib.hid (hv5'.alloc (.cells #[.int .i64 kd, .string U, .string G] 30))
    have HNW : Hid (∀ (j : Nat) (u : Value), [Value.int .i64 kd, .string U, .string G][j]? = some u → (w5.alloc (.cells #[.int .i64 kd, .string U, .string G] 30)).cell? ((⟨w5.heap.size, 0, none⟩ : Addr).add j) = some u) := Lib.hid (World.news_of_block (World.alloc_heap_new w5 (.cells #[.int .i64 kd, .string U, .string G] 30)))
    obtain ⟨b6, hb6⟩ : ∃ b6, b6 = (w5.alloc (.cells #[.int .i64 kd, .string U, .string G] 30)).heap.size := ⟨_, rfl⟩
    have HB6 := Lib.hid hb6
    have HO0 : Hid ((w5.alloc (.cells #[.int .i64 kd, .string U, .string G] 30)).ownsRow b6 30 3 (.slice none 0 0) 0 []) := Lib.hid (World.ownsRow_nil _ _ _ _)
    have hform := hv5'.2
    clear hb6 hv5'
    rcases hform with ⟨rfl, hm0⟩ | ⟨g5, cap5, cur5, rfl, hg5, _, hcap5, hcap6, _, _⟩
    · have HM0 := Lib.hid hm0
      clear hm0
      go_wp2_with (first
        | (at_builtin; refine wpList_append_lies _ rfl (.tmp 45) (.tmp 47) 22 rfl b6 30 i0 (.agg #[.int .i64 0, .string ⟨#[]⟩, .string ⟨#[]⟩]) 3 40 Tryd.underlying22 hi hz0 hz1 hz2 rfl (by decide) (.slice none 0 0) 0 [] rfl HO0.out ⟨w5.heap.size, 0, none⟩ 1 1 [.int .i64 kd, .string U, .string G] rfl rfl HNW.out HONE.out (by decide) HLEN.out.1.1 HLEN.out.1.2 (Nat.le_of_eq HB6.out) _ rfl ?_; intro g7 cap7 w7 how7 hgr7 _ _; have HO7 := Lib.hid how7; have HB7 : Hid (Below (w5.alloc (.cells #[.int .i64 kd, .string U, .string G] 30)).heap.size (w5.alloc (.cells #[.int .i64 kd, .string U, .string G] 30)) w7) := Lib.hid ((Below.refl _ _).grown hgr7 (Nat.le_refl _) (fun j ej => by cases ej)); clear how7 hgr7)
        | (at_builtin; refine wpList_append_own_none rfl (.tmp 48) (.tmp 49) 22 rfl b6 30 i0 3 Tryd.underlying22 hi (.slice (some ⟨g7, 0, none⟩) (0 + 1) cap7) (0 + 1) ([] ++ [.int .i64 kd, .string U, .string G]) rfl HO7.out rfl ?_; have V7 := Lib.hid (V6.out.below HB7.out); have T7 := Lib.hid (rest_tl0 (t := t) (M := M) HO7.out HTL.out HM.out HM0.out); have B7 := Lib.hid (B6.out.trans (HB7.out.mono B6.out.size)))
        | (go_at_call 16; refine (HSM.out _ _ _ V7.out T7.out).mono ?_; rintro e w9 ⟨rfl, hb9⟩; have B9 := Lib.hid (B7.out.trans (hb9.mono B7.out.size)); clear hb9))
      go_ret
      exact ⟨rfl, B9.out⟩
    · have HCP := Lib.hid (And.intro hg5 (And.intro hcap5 hcap6))
      go_wp2_with (first
        | (at_builtin; refine wpList_append_lies _ rfl (.tmp 45) (.tmp 47) 22 rfl b6 30 i0 (.agg #[.int .i64 0, .string ⟨#[]⟩, .string ⟨#[]⟩]) 3 40 Tryd.underlying22 hi hz0 hz1 hz2 rfl (by decide) (.slice none 0 0) 0 [] rfl HO0.out ⟨w5.heap.size, 0, none⟩ 1 1 [.int .i64 kd, .string U, .string G] rfl rfl HNW.out HONE.out (by decide) HLEN.out.1.1 HLEN.out.1.2 (Nat.le_of_eq HB6.out) _ rfl ?_; intro g7 cap7 w7 how7 hgr7 _ _; have HO7 := Lib.hid how7; have HB7 : Hid (Below (w5.alloc (.cells #[.int .i64 kd, .string U, .string G] 30)).heap.size (w5.alloc (.cells #[.int .i64 kd, .string U, .string G] 30)) w7) := Lib.hid ((Below.refl _ _).grown hgr7 (Nat.le_refl _) (fun j ej => by cases ej)); have HNS := Lib.hid (rest_cells2 (M := M) HM.out (ownL_kept O5.out HB7.out)); clear how7 hgr7)
        | (at_builtin; refine wpList_append_own _ rfl (.tmp 48) (.tmp 49) 22 rfl b6 30 i0 (.agg #[.int .i64 0, .string ⟨#[]⟩, .string ⟨#[]⟩]) 3 40 Tryd.underlying22 hi hz0 hz1 hz2 rfl (by decide) (.slice (some ⟨g7, 0, none⟩) (0 + 1) cap7) (0 + 1) ([] ++ [.int .i64 kd, .string U, .string G]) rfl HO7.out ⟨g5, 0, none⟩ m cap5 (cellsL M) rfl HMC.out HNS.out HMN.out HLEN.out.2.1 HLEN.out.2.2 (Nat.le_trans (Nat.le_of_eq HB6.out) HB7.out.size) ?_; intro v8 w8 how8 hgr8 _; obtain ⟨g8, cap8, rfl, _, _⟩ := how8.form (by omega); have HB8 : Hid (Below (w5.alloc (.cells #[.int .i64 kd, .string U, .string G] 30)).heap.size (w5.alloc (.cells #[.int .i64 kd, .string U, .string G] 30)) w8) := Lib.hid (HB7.out.grown hgr8 HB7.out.size (fun j ej => Nat.le_trans (Nat.le_of_eq HB6.out.symm) (HO7.out.lt j ej).1)); have V8 := Lib.hid (V6.out.below HB8.out); have T8 := Lib.hid (rest_tl (t := t) (M := M) (m := m) (cs := [.int .i64 kd, .string U, .string G]) how8 HTL.out HM.out (by have := HML.out; unfold maxLen; omega)); have B8 := Lib.hid (B6.out.trans (HB8.out.mono B6.out.size)); clear how8 hgr8)
        | (go_at_call 16; refine (HSM.out _ _ _ V8.out T8.out).mono ?_; rintro e w9 ⟨rfl, hb9⟩; have B9 := Lib.hid (B8.out.trans (hb9.mono B8.out.size)); clear hb9))
      go_ret
      exact ⟨rfl, B9.out⟩
end Go.Proofs.YthnnjogkomhmfaaDoor
