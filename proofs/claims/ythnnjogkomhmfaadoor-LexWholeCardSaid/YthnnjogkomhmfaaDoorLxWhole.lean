/- The statement LexWhole, as a call. -/
import Derived.Test.YthnnjogkomhmfaaDoorLxShown
import Derived.Test.YthnnjogkomhmfaaDoorLxTextC
import Derived.Test.YthnnjogkomhmfaaDoorLxSame
import Derived.BigQuiet
import Derived.Deep.QuietTactic
import Derived.Laws.StructEq
namespace Go.Proofs.YthnnjogkomhmfaaDoor
open Go Go.RowKit Go.Shelf
attribute [local go_sem] Oper.semAt_some

theorem whole_dn {B : Nat} {a w : World} (h : Below B a w) (n : Nat) : Below B a (w.drewN n) := h.trans ⟨rfl, rfl, rfl, Nat.le_refl _, fun _ _ => rfl⟩

set_option maxRecDepth 100000 in
set_option maxHeartbeats 4000000 in
theorem whole_true (w : World) (hG : LG w) (x : ByteArray) (hx : x.size ≤ maxLen) :
    Calls Tryd.prog 4 #[.string x] w fun e W' => e = .returned (.bool true) ∧ Below w.heap.size w W' := by
  have hmix : Tryd.prog.follows .mixedOrders = true := by kernel_rfl
  obtain ⟨C, hC⟩ : ∃ C, C = cutT x.data.toList := ⟨_, rfl⟩
  have hcl : C.length ≤ 10000 := by rw [hC]; have := cutT_len x.data.toList; omega
  have hcut := fun W => cut_c x hx W
  rw [← hC] at hcut
  obtain ⟨s, hs⟩ : ∃ s, s = bs C := ⟨_, rfl⟩
  have hL := fun W h => line_c C hcl W h
  have htx : ∀ v W, TL W v (toks st C 0) → Calls Tryd.prog 11 #[v] W fun e W' => e = .returned (.string s) ∧ Below W.heap.size W W' := fun v W h => by
    have ht : textOf (toks st C 0) = C := toks_text st st_ok C.length C (Nat.le_refl _)
    have := text_c v _ W h (by rw [ht]; omega)
    rw [ht, ← hs] at this
    exact this
  rw [← hs] at hL hcut
  have HCUT := Lib.hid hcut
  have HL := Lib.hid hL
  have HTX := Lib.hid htx
  have HSH := Lib.hid (fun W h => shown_c W h)
  have HG := Lib.hid hG
  clear hcut hL htx hC hs hG hx
  go_enter Tryd.func4, Tryd.ntmps4
  go_wp2_with fail
  refine (HSH.out w HG.out).mono ?_
  rintro e w1 ⟨rfl, hb1⟩
  have G1 := Lib.hid (HG.out.below hb1)
  have B1 := Lib.hid hb1
  clear hb1
  go_wp2_with (go_at_call 17; refine (HCUT.out _).mono ?_; rintro e w2 ⟨rfl, hw2⟩; obtain rfl := hw2.symm; clear hw2)
  refine (HL.out _ G1.out).mono ?_
  rintro e w3 ⟨v, rfl, hv, hb3⟩
  obtain ⟨L, hLL⟩ : ∃ L, L = toks st C 0 := ⟨_, rfl⟩
  have htx := fun W h => HTX.out v W h
  rw [← hLL] at hv htx
  have HTV := Lib.hid (fun W (hb : Below w3.heap.size w3 W) => htx W (hv.below hb))
  have B3 := Lib.hid (B1.out.trans (hb3.mono B1.out.size))
  have HLL := Lib.hid hLL
  obtain ⟨a0, c0, rfl, hc1, hc2⟩ := hv.form
  unfold maxLen at hc2
  obtain ⟨n, hn⟩ : ∃ n, n = L.length := ⟨_, rfl⟩
  have hcells := hv.cells
  rw [← hn] at hc1 hcells HTV ⊢
  have hn1 : n ≤ 10000 := by rw [hn, hLL]; exact Nat.le_trans (toks_len st st_ok C.length C (Nat.le_refl _)) hcl
  have HC := Lib.hid hcells
  have HN := Lib.hid hn
  clear hcells hv hb3 hLL hn htx HTX
  go_wp2
  go_loopw [5] (fun i wr => ∃ k : Nat, k ≤ n ∧ i = .int .i64 k ∧ Below w3.heap.size w3 wr)
    (fun i _ => n - (intOf i).toNat)
  case atStart => exact ⟨0, Nat.zero_le _, rfl, Below.refl _ _⟩
  case round =>
    obtain ⟨k, hk, rfl, hb4⟩ := hrel
    have B4 := Lib.hid hb4
    by_cases hlt : k < n
    · obtain ⟨g, o, c1, hv, hg, hcs⟩ := HC.out (by omega)
      obtain rfl : a0 = some ⟨g, o, none⟩ := by injection hv
      obtain ⟨t, ht⟩ : ∃ t, L[k]? = some t := ⟨_, List.getElem?_eq_getElem (by rw [← HN.out]; exact hlt)⟩
      have hcell := hcs k t ht
      obtain ⟨X0, X1, X2⟩ : Hid (w3.cell? ⟨g, o + k * 3, none⟩ = _) ∧ Hid (w3.cell? ⟨g, o + k * 3 + 1, none⟩ = _) ∧ Hid (w3.cell? ⟨g, o + k * 3 + 2, none⟩ = _) := ⟨Lib.hid hcell.1, Lib.hid hcell.2.1, Lib.hid hcell.2.2⟩
      obtain ⟨V, hV0, hVl, htV⟩ := toks_mem st st_ok C.length C (Nat.le_refl _) t (by rw [← HLL.out]; exact List.mem_of_getElem? ht)
      obtain ⟨m, hm1, hm2, hm3, hm4, hm5⟩ := tk1_fits st hV0 (st_bounds hV0)
      rw [← htV] at hm3 hm4 hm5
      have hU0 : ¬ t.text = [] := fun e => by
        rw [e] at hm3
        have := congrArg List.length hm3
        rw [List.length_take] at this
        simp at this
        omega
      obtain ⟨kd, hkd⟩ : ∃ kd : Int, kd = ((t.kind : Nat) : Int) := ⟨_, rfl⟩
      obtain ⟨U, hU⟩ : ∃ U, U = bs t.text := ⟨_, rfl⟩
      obtain ⟨G, hGl⟩ : ∃ G, G = bs t.glyph := ⟨_, rfl⟩
      rw [← hkd] at X0
      rw [← hU] at X1
      rw [← hGl] at X2
      have hq0 : ¬ U.toList = [] := fun e => by
        have h1 := bs_ne hU0
        rw [← hU, e] at h1
        exact absurd h1 (by decide +kernel)
      have hq : U.toList.isEmpty = false := by
        cases h1 : U.toList with
        | nil => exact absurd h1 hq0
        | cons a r => rfl
      have hk1 : decide (kd < 1) = false := by rw [hkd]; simp; omega
      have hk2 : decide (10 < kd) = false := by rw [hkd]; simp; omega
      have hk3 : 1 ≤ kd := by rw [hkd]; omega
      have hk4 : kd ≤ 10 := by rw [hkd]; omega
      have e0 := (hb4.cell (p := ⟨g, o + k * 3, none⟩) hg).trans X0.out
      have e1 := (hb4.cell (p := ⟨g, o + k * 3 + 1, none⟩) hg).trans X1.out
      have e2 := (hb4.cell (p := ⟨g, o + k * 3 + 2, none⟩) hg).trans X2.out
      clear hcs hcell hv ht hV0 hVl htV hkd hU hGl hb4 hm1 hm2 hm3 hm4 hm5 hU0
      go_wp2_with fail
      go_roundw
      case rel => exact ⟨k + 1, by omega, by simp, B4.out⟩
      case measure => simp [intOf]; omega
    · obtain rfl : k = n := by omega
      have HTW := Lib.hid (HTV.out _ B4.out)
      clear hb4
      go_wp2_with (go_at_call 11; refine HTW.out.mono ?_; rintro e w5 ⟨rfl, hb5⟩; have B5 := Lib.hid hb5; clear hb5)
      go_ret
      refine ⟨by simp, B3.out.trans ((B4.out.trans (B5.out.mono B4.out.size)).mono B3.out.size)⟩
end Go.Proofs.YthnnjogkomhmfaaDoor
