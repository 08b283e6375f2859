/- The statement GlyphFirst, walked. -/
import Derived.Test.YtldffmnmofmkaaaDoorGlLetters
import Derived.Test.YtldffmnmofmkaaaDoorGlParts
namespace Go.Proofs.YtldffmnmofmkaaaDoor
open Go Go.RowKit

theorem cl_pos : ∀ k, k < 38 → cl k ≠ 0 := by decide +kernel

set_option maxHeartbeats 8000000 in
set_option maxRecDepth 100000 in
theorem firsts_true (w : World) (hG : Ground w) (s : ByteArray) (hs : s.size ≤ maxLen) :
    Calls Tryd.prog 6 #[.string s] w fun e W' => e = .returned (.bool true) ∧ Below w.heap.size w W' := by
  have HC := fun w => Lib.hid (cut_c s hs w)
  have hxs := cut3_size s
  rw [← cutl_bs] at HC hxs
  obtain ⟨X, hX⟩ : ∃ X, X = cutl s := ⟨_, rfl⟩
  rw [← hX] at HC hxs
  clear hX
  obtain ⟨x, hx⟩ : ∃ x, x = bs X := ⟨_, rfl⟩
  have HX := Lib.hid hx
  rw [← hx] at HC hxs
  clear hx
  have HS := fun w h => Lib.hid (shown_c w h)
  have HAl := fun w h => Lib.hid (all_c w h)
  have HG := Lib.hid hG
  clear hG
  go_enter Tryd.func6, Tryd.ntmps6
  go_wp2_with fail
  refine (HS _ HG.out).out.mono ?_
  rintro e w1 ⟨rfl, hb1⟩
  have HG1 := Lib.hid (HG.out.below hb1)
  have HB1 := Lib.hid hb1
  clear hb1
  go_wp2_with fail
  refine (HC _).out.mono ?_
  rintro e w' ⟨rfl, rfl⟩
  go_wp2_with fail
  refine (HAl _ HG1.out).out.mono ?_
  rintro e w2 ⟨rfl, hc2, hl2, hb2⟩
  have HG2 := Lib.hid (HG1.out.below hb2)
  have HB2 := Lib.hid (HB1.out.trans (hb2.mono HB1.out.size))
  have HC2 := Lib.hid hc2
  have HL2 := Lib.hid hl2
  obtain ⟨b, hb⟩ : ∃ b, b = w1.heap.size := ⟨_, rfl⟩
  rw [← hb] at HC2 HL2 ⊢
  clear hb2 hc2 hl2 hb
  go_wp2_with fail
  go_loopw [5] (fun i wr => ∃ k : Nat, k ≤ 38 ∧ i = .int .i64 k ∧ (∀ k, k < 38 → wr.cell? ⟨b, k, none⟩ = some (.string (bs (gl k)))) ∧ b < wr.heap.size ∧ Ground wr ∧ Below w.heap.size w wr)
    (fun i _ => 38 - (intOf i).toNat)
  case atStart => exact ⟨0, Nat.zero_le _, rfl, HC2.out, HL2.out, HG2.out, HB2.out⟩
  case round =>
    obtain ⟨k, hk, rfl, hc, hl, hG, hB⟩ := hrel
    by_cases hlt : k < 38
    · have HF1 : ∀ W, Ground W → Hid (Calls Tryd.prog 13 #[.string (bs (gl k) ++ x)] W fun e W' => e = .returned (.tuple #[.string (bs (gl k)), .int .i64 ((bs (gl k)).size : Int)]) ∧ Below W.heap.size W W') := fun W hW => Lib.hid (by
        have h1 := First_c (gl k ++ X) W hW
        obtain ⟨e1, e2⟩ := first_spell hlt (gl_spells hlt) X
        rw [e1, e2, ← bs_app, ← HX.out, ← bs_size] at h1
        exact h1)
      have HF2 : ∀ W, Ground W → Hid (∃ h m, (di k ≠ [] → h = bs (gl k) ∧ m = (2 : Int)) ∧ Calls Tryd.prog 13 #[.string (bs (di k) ++ x)] W fun e W' => e = .returned (.tuple #[.string h, .int .i64 m]) ∧ Below W.heap.size W W') := fun W hW => Lib.hid (by
        have h1 := First_c (di k ++ X) W hW
        rw [← bs_app, ← HX.out] at h1
        refine ⟨_, _, fun hd => ?_, h1⟩
        obtain ⟨e1, e2⟩ := first_spell hlt ⟨hd, .inr rfl⟩ X
        rw [e1, e2]
        refine ⟨rfl, ?_⟩
        rcases di_len k hlt with e | e
        · exact absurd (List.eq_nil_of_length_eq_zero e) hd
        · rw [e]; rfl)
      have HCl : ∀ W, Ground W → Hid (Calls Tryd.prog 18 #[.string (bs (gl k))] W fun e W' => e = .returned (.int .i64 ((cl k : Nat) : Int)) ∧ Below W.heap.size W W') := fun W hW => Lib.hid (by
        have h1 := class_c (gl k) W hW
        rw [cls_gl k hlt] at h1
        exact h1)
      have HDi := fun w h => Lib.hid (digraph_g k hlt w h)
      have hcn : (((cl k : Nat) : Int) == 0) = false := beq_eq_false_iff_ne.2 (by have := cl_pos k hlt; omega)
      have hcle := cl_le k
      have ck := hc k hlt
      have hg3 : (bs (gl k)).size ≤ 3 := by rw [bs_size]; exact gl_len k hlt
      have hd2 : (bs (di k)).size ≤ 2 := by rw [bs_size]; have := di_len k hlt; omega
      have hgg : ((bs (gl k)).toList == (bs (gl k)).toList) = true := beq_self_eq_true _
      have HR : Hid ((di k = [] → ((bs (gl k)).size : Int) = 1) ∧ (di k ≠ [] → ((bs (gl k)).size : Int) ≠ 1 ∧ (bs (di k)).size = 2)) := Lib.hid ⟨fun h => by rw [bs_size, single k hlt h]; rfl, fun h => ⟨by rw [bs_size]; have := short k hlt h; omega, by
        rw [bs_size]
        rcases di_len k hlt with e | e
        · exact absurd (List.eq_nil_of_length_eq_zero e) h
        · exact e⟩⟩
      have HO : Hid ((di k).isEmpty = true ↔ di k = []) := Lib.hid (by simp)
      obtain ⟨g, hgd⟩ : ∃ g, g = bs (gl k) := ⟨_, rfl⟩
      obtain ⟨d, hdd⟩ : ∃ d, d = bs (di k) := ⟨_, rfl⟩
      obtain ⟨o, hod⟩ : ∃ o, o = (di k).isEmpty := ⟨_, rfl⟩
      obtain ⟨c, hcd⟩ : ∃ c : Int, c = ((cl k : Nat) : Int) := ⟨_, rfl⟩
      have hc6 : c ≤ 6 := by omega
      have hc0 : 0 ≤ c := by omega
      rw [← hgd] at HF1 HCl HDi ck hg3 hgg HR
      rw [← hgd, ← hdd] at HF2
      rw [← hdd] at HDi hd2 HR
      rw [← hod] at HDi HO
      rw [← hcd] at HCl hcn
      have HHC := Lib.hid hc
      have HHG := Lib.hid hG
      have HHB := Lib.hid hB
      clear hgd hdd hod hcd hc hG hB
      go_wp2_with fail
      refine (HF1 _ HHG.out).out.mono ?_
      rintro e w3 ⟨rfl, hb3⟩
      have HG3 := Lib.hid (HHG.out.below hb3)
      have HB3 := Lib.hid (HHB.out.trans (hb3.mono HHB.out.size))
      have ck3 : w3.cell? ⟨b, k, none⟩ = some (.string g) := (hb3.cell (p := ⟨b, k, none⟩) hl).trans ck
      have hl3 : b < w3.heap.size := Nat.lt_of_lt_of_le hl hb3.size
      have HC3 : Hid (∀ k, k < 38 → w3.cell? ⟨b, k, none⟩ = some (.string (bs (gl k)))) := Lib.hid (fun k hk => (hb3.cell (p := ⟨b, k, none⟩) hl).trans (HHC.out k hk))
      clear hb3 ck
      go_wp2_with fail
      refine (HCl _ HG3.out).out.mono ?_
      rintro e w4 ⟨rfl, hb4⟩
      have HG4 := Lib.hid (HG3.out.below hb4)
      have HB4 := Lib.hid (HB3.out.trans (hb4.mono HB3.out.size))
      have ck4 : w4.cell? ⟨b, k, none⟩ = some (.string g) := (hb4.cell (p := ⟨b, k, none⟩) hl3).trans ck3
      have hl4 : b < w4.heap.size := Nat.lt_of_lt_of_le hl3 hb4.size
      have HC4 : Hid (∀ k, k < 38 → w4.cell? ⟨b, k, none⟩ = some (.string (bs (gl k)))) := Lib.hid (fun k hk => (hb4.cell (p := ⟨b, k, none⟩) hl3).trans (HC3.out k hk))
      clear hb4 ck3
      go_wp2_with fail
      refine (HDi _ HG4.out).out.mono ?_
      rintro e w5 ⟨rfl, hb5⟩
      have HG5 := Lib.hid (HG4.out.below hb5)
      have HB5 := Lib.hid (HB4.out.trans (hb5.mono HB4.out.size))
      have ck5 : w5.cell? ⟨b, k, none⟩ = some (.string g) := (hb5.cell (p := ⟨b, k, none⟩) hl4).trans ck4
      have hl5 : b < w5.heap.size := Nat.lt_of_lt_of_le hl4 hb5.size
      have HC5 : Hid (∀ k, k < 38 → w5.cell? ⟨b, k, none⟩ = some (.string (bs (gl k)))) := Lib.hid (fun k hk => (hb5.cell (p := ⟨b, k, none⟩) hl4).trans (HC4.out k hk))
      clear hb5 ck4
      obtain ⟨h, m, hhm, hcall⟩ := (HF2 _ HG5.out).out
      have HHM := Lib.hid hhm
      have HCA := Lib.hid hcall
      clear hhm hcall
      go_wp2_with fail
      refine HCA.out.mono ?_
      rintro e w6 ⟨rfl, hb6⟩
      have HG6 := Lib.hid (HG5.out.below hb6)
      have HB6 := Lib.hid (HB5.out.trans (hb6.mono HB5.out.size))
      have ck6 : w6.cell? ⟨b, k, none⟩ = some (.string g) := (hb6.cell (p := ⟨b, k, none⟩) hl5).trans ck5
      have hl6 : b < w6.heap.size := Nat.lt_of_lt_of_le hl5 hb6.size
      have HC6 : Hid (∀ k, k < 38 → w6.cell? ⟨b, k, none⟩ = some (.string (bs (gl k)))) := Lib.hid (fun k hk => (hb6.cell (p := ⟨b, k, none⟩) hl5).trans (HC5.out k hk))
      clear hb6 ck5
      cases o with
      | true =>
        have h1 := HR.out.1 (HO.out.1 rfl)
        go_wp2
        go_roundw
        case rel => exact ⟨k + 1, by omega, by go_num, HC6.out, hl6, HG6.out, HB6.out⟩
        case measure => simp [intOf]; omega
      | false =>
        have hne : di k ≠ [] := fun e => by have := HO.out.2 e; cases this
        obtain ⟨h1, h2⟩ := HR.out.2 hne
        obtain ⟨rfl, rfl⟩ := HHM.out hne
        have h3 : (((h.size : Nat) : Int) == 1) = false := beq_eq_false_iff_ne.2 h1
        go_wp2
        go_roundw
        case rel => exact ⟨k + 1, by omega, by go_num, HC6.out, hl6, HG6.out, HB6.out⟩
        case measure => simp [intOf]; omega
    · obtain rfl : k = 38 := by omega
      have HHB := Lib.hid hB
      clear hc hG hB
      go_wp2
      go_ret
      exact ⟨rfl, HHB.out⟩
end Go.Proofs.YtldffmnmofmkaaaDoor
