/- The statement LexAgain, as a call. -/
import Derived.Test.YthnnjogkomhmfaaDoorLxShown
import Derived.BigQuiet
import Derived.Deep.QuietTactic
import Derived.Laws.StructEq
namespace Go.Proofs.YthnnjogkomhmfaaDoor
open Go Go.RowKit Go.Shelf
attribute [local go_sem] Oper.semAt_some

theorem below_dn {B : Nat} {a w : World} (h : Below B a w) (n : Nat) : Below B a (w.drewN n) := h.trans ⟨rfl, rfl, rfl, Nat.le_refl _, fun _ _ => rfl⟩

set_option maxRecDepth 100000 in
set_option maxHeartbeats 4000000 in
theorem again_true (w : World) (hG : LG w) (x : ByteArray) (hx : x.size ≤ maxLen) :
    Calls Tryd.prog 6 #[.string x] w fun e W' => e = .returned (.bool true) ∧ Below w.heap.size w W' := by
  have hmix : Tryd.prog.follows .mixedOrders = true := by kernel_rfl
  obtain ⟨C, hC⟩ : ∃ C, C = cutT x.data.toList := ⟨_, rfl⟩
  have hcl : C.length ≤ 10000 := by rw [hC]; have := cutT_len x.data.toList; omega
  have hcut := fun W => cut_c x hx W
  rw [← hC] at hcut
  obtain ⟨s, hs⟩ : ∃ s, s = bs C := ⟨_, rfl⟩
  have hL := fun W h => line_c C hcl W h
  rw [← hs] at hL hcut
  have HCUT := Lib.hid hcut
  have HL := Lib.hid hL
  have HSH := Lib.hid (fun W h => shown_c W h)
  have HG := Lib.hid hG
  clear hcut hL hC hs hG hx
  go_enter Tryd.func6, Tryd.ntmps6
  go_wp2_with fail
  refine (HSH.out w HG.out).mono ?_
  rintro e w1 ⟨rfl, hb1⟩
  have G1 := Lib.hid (HG.out.below hb1)
  have B1 := Lib.hid hb1
  clear hb1
  go_wp2_with (go_at_call 17; refine (HCUT.out _).mono ?_; rintro e w2 ⟨rfl, hw2⟩; obtain rfl := hw2.symm; clear hw2)
  refine (HL.out _ G1.out).mono ?_
  rintro e w3 ⟨v, rfl, hv, hb3⟩
  obtain ⟨L, hLL⟩ : ∃ L, L = toks st C 0 := ⟨_, rfl⟩
  rw [← hLL] at hv
  have G3 := Lib.hid (G1.out.below hb3)
  have B3 := Lib.hid (B1.out.trans (hb3.mono B1.out.size))
  have HLL := Lib.hid hLL
  obtain ⟨a0, c0, rfl, hc1, hc2⟩ := hv.form
  unfold maxLen at hc2
  obtain ⟨n, hn⟩ : ∃ n, n = L.length := ⟨_, rfl⟩
  have hcells := hv.cells
  rw [← hn] at hc1 hcells ⊢
  have hn1 : n ≤ 10000 := by rw [hn, hLL]; exact Nat.le_trans (toks_len st st_ok C.length C (Nat.le_refl _)) hcl
  have HC := Lib.hid hcells
  have HN := Lib.hid hn
  clear hcells hv hb3 hLL hn
  go_wp2
  go_loopw [5] (fun i wr => ∃ k : Nat, k ≤ n ∧ i = .int .i64 k ∧ Below w3.heap.size w3 wr)
    (fun i _ => n - (intOf i).toNat)
  case atStart => exact ⟨0, Nat.zero_le _, rfl, Below.refl _ _⟩
  case round =>
    obtain ⟨k, hk, rfl, hb4⟩ := hrel
    have B4 := Lib.hid hb4
    have G4 := Lib.hid (G3.out.below hb4)
    by_cases hlt : k < n
    · obtain ⟨g, o, c1, hv, hg, hcs⟩ := HC.out (by omega)
      obtain rfl : a0 = some ⟨g, o, none⟩ := by injection hv
      obtain ⟨t, ht⟩ : ∃ t, L[k]? = some t := ⟨_, List.getElem?_eq_getElem (by rw [← HN.out]; exact hlt)⟩
      have hcell := hcs k t ht
      obtain ⟨X0, X1, X2⟩ : Hid (w3.cell? ⟨g, o + k * 3, none⟩ = _) ∧ Hid (w3.cell? ⟨g, o + k * 3 + 1, none⟩ = _) ∧ Hid (w3.cell? ⟨g, o + k * 3 + 2, none⟩ = _) := ⟨Lib.hid hcell.1, Lib.hid hcell.2.1, Lib.hid hcell.2.2⟩
      obtain ⟨V, hV0, hVl, htV⟩ := toks_mem st st_ok C.length C (Nat.le_refl _) t (by rw [← HLL.out]; exact List.mem_of_getElem? ht)
      have htl : t.text.length ≤ 10000 := by
        have := (tk1_len st st_ok hV0).2.1
        rw [htV]
        omega
      have hM := fun W h => line_c t.text htl W h
      have hag : t.kind ≠ 10 → toks st t.text 0 = [t] := fun h => by rw [htV] at h ⊢; exact toks_again st st_ok hV0 h
      obtain ⟨kd, hkd⟩ : ∃ kd : Int, kd = ((t.kind : Nat) : Int) := ⟨_, rfl⟩
      obtain ⟨U, hU⟩ : ∃ U, U = bs t.text := ⟨_, rfl⟩
      obtain ⟨G, hGl⟩ : ∃ G, G = bs t.glyph := ⟨_, rfl⟩
      rw [← hkd] at X0
      rw [← hU] at X1
      rw [← hGl] at X2
      rw [← hU] at hM
      have HM := Lib.hid hM
      have HAG := Lib.hid hag
      have HV := Lib.hid (And.intro hkd (And.intro hU hGl))
      have e0 := (hb4.cell (p := ⟨g, o + k * 3, none⟩) hg).trans X0.out
      have e1 := (hb4.cell (p := ⟨g, o + k * 3 + 1, none⟩) hg).trans X1.out
      have e2 := (hb4.cell (p := ⟨g, o + k * 3 + 2, none⟩) hg).trans X2.out
      have hgr : g < wr.heap.size := Nat.lt_of_lt_of_le hg hb4.size
      clear hcs hcell hv ht hV0 hVl htV htl hM hag hkd hU hGl hb4
      go_wp2_with fail
      refine (HM.out _ G4.out).mono ?_
      rintro e w5 ⟨v5, rfl, hv5, hb5⟩
      have B5 := Lib.hid (B4.out.trans (hb5.mono B4.out.size))
      have p0 := (hb5.cell (p := ⟨g, o + k * 3, none⟩) hgr).trans e0
      have p1 := (hb5.cell (p := ⟨g, o + k * 3 + 1, none⟩) hgr).trans e1
      have p2 := (hb5.cell (p := ⟨g, o + k * 3 + 2, none⟩) hgr).trans e2
      clear hb5 e0 e1 e2
      by_cases h10 : t.kind = 10
      · have hk10 : kd = 10 := by rw [HV.out.1, h10]; rfl
        subst hk10
        clear hv5 h10
        go_wp2_with fail
        go_quiet (fail)
        go_wp2_with fail
        go_roundw
        case rel => exact ⟨k + 1, by omega, by simp, below_dn B5.out _⟩
        case measure => simp [intOf]; omega
      · have hk10 : (kd != 10) = true := by rw [HV.out.1]; simp; omega
        rw [HAG.out h10] at hv5
        obtain ⟨a5, c5, rfl, hc5, hc6⟩ := hv5.form
        obtain ⟨g5, o5, c7, hvv, hg5, hcs5⟩ := hv5.cells (by simp)
        obtain rfl : a5 = some ⟨g5, o5, none⟩ := by injection hvv
        obtain ⟨q0, q1, q2⟩ := hcs5 0 t rfl
        rw [← HV.out.1] at q0
        rw [← HV.out.2.1] at q1
        rw [← HV.out.2.2] at q2
        simp only [Nat.zero_mul, Nat.add_zero] at q0 q1 q2
        change 1 ≤ c5 at hc5
        unfold maxLen at hc6
        clear hv5 hvv hcs5 h10
        go_wp2_with fail
        go_quiet (fail)
        go_wp2_with fail
        go_roundw
        case rel => exact ⟨k + 1, by omega, by simp, below_dn B5.out _⟩
        case measure => simp [intOf]; omega
    · obtain rfl : k = n := by omega
      clear hb4
      go_wp2
      go_ret
      exact ⟨rfl, B3.out.trans (B4.out.mono B3.out.size)⟩
end Go.Proofs.YthnnjogkomhmfaaDoor
