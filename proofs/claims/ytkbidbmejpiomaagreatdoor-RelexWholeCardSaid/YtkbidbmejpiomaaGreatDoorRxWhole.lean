/- The statement RelexWhole, as a call. -/
import Derived.Test.YtkbidbmejpiomaaGreatDoorRyF
namespace Go.Proofs.YtkbidbmejpiomaaGreatDoor
open Go Go.RowKit Go.Shelf
attribute [local go_sem] Oper.semAt_some

set_option maxRecDepth 100000 in
set_option maxHeartbeats 4000000 in
theorem whole_full (w : World) (hG : RG w.heap.size w) (x : ByteArray) (v : Value) (h : 4000 < (cut x).size) :
    Calls Tryz.prog 4 #[.string x, v] w fun e W' => e = .returned (.bool true) ∧ Below w.heap.size w W' := by
  have HSH := Lib.hid (shown_c w hG)
  have HNF := Lib.hid (fun W1 (hb : Below w.heap.size w W1) => new_full W1 (hG.below hb (Nat.le_refl _)).here (cut x) h)
  clear hG h
  go_enter Tryz.func4, Tryz.ntmps4
  go_wp2_with fail
  refine HSH.out.mono ?_
  rintro e w1 ⟨rfl, hb1⟩
  have B1 := Lib.hid hb1
  clear hb1
  go_wp2_with fail
  refine (cut_any _ x).mono ?_
  rintro e w2 ⟨rfl, rfl⟩
  go_wp2_with fail
  refine (HNF.out _ B1.out).mono ?_
  rintro e w2 ⟨rfl, hb2⟩
  have B2 := Lib.hid (B1.out.trans (hb2.mono B1.out.size))
  clear hb2
  go_wp2_with fail
  go_ret
  exact ⟨rfl, B2.out⟩

set_option maxRecDepth 100000 in
set_option maxHeartbeats 8000000 in
theorem whole_ok (w : World) (hG : RG w.heap.size w) (x : ByteArray) (v : Value) (A : Nat → Int × Int × ByteArray) (len : Nat) (hA : ActsIn 0 w.heap.size w v A len) (h : (cut x).size ≤ 4000) :
    Calls Tryz.prog 4 #[.string x, v] w fun e W' => e = .returned (.bool true) ∧ Below w.heap.size w W' := by
  have HSH := Lib.hid (shown_c w hG)
  have HG := Lib.hid hG
  have HA := Lib.hid hA
  have hnw := fun W1 (hb : Below w.heap.size w W1) => new_ok W1 (hG.below hb (Nat.le_refl _)).here (cut x).data.toList (by rw [← Lib.size_eq]; exact h)
  rw [bs_of] at hnw
  have HNW := Lib.hid hnw
  clear hG hA hnw
  go_enter Tryz.func4, Tryz.ntmps4
  go_wp2_with fail
  refine HSH.out.mono ?_
  rintro e w1 ⟨rfl, hb1⟩
  have B1 := Lib.hid hb1
  clear hb1
  go_wp2_with fail
  refine (cut_any _ x).mono ?_
  rintro e w2 ⟨rfl, rfl⟩
  go_wp2_with fail
  refine (HNW.out _ B1.out).mono ?_
  rintro e w4 ⟨X, b, rfl, hl4, hb4⟩
  have B4 := Lib.hid (B1.out.trans (hb4.mono B1.out.size))
  have L4 := Lib.hid (hl4.mono (base' := w.heap.size) B1.out.size)
  clear hl4 hb4
  go_wp2_with fail
  refine (few_any _ v A len 20 (by omega) ((HA.out.below B4.out (Nat.le_refl _)).wider B4.out.size)).mono ?_
  rintro e w5 ⟨v5, rfl, hA5, hb5⟩
  obtain ⟨m5, hm5⟩ : ∃ m5, m5 = min len 20 := ⟨_, rfl⟩
  have hm5' : m5 ≤ 20 := by omega
  rw [← hm5] at hA5
  have hs45 := hb5.size
  have HI5 : Hid (RInv w w4.heap.size w5.heap.size X v5 (cutA A) m5 0 w5 b (cut x).data.toList ((cut x).data.toList.count 10 + 1)) := Lib.hid ⟨L4.out.below hb5, by have h8 : (cut x).data.toList.count 10 ≤ (cut x).data.toList.length := List.count_le_length; have h9 := L4.out.small; omega, B4.out.trans (hb5.mono B4.out.size), Nat.le_refl _, hA5, L4.out.ltX, .inl L4.out.ltb.1⟩
  obtain ⟨a5, c5, rfl, hlen5, _⟩ := hA5
  unfold maxLen at hlen5
  clear hm5 hb5 HA L4 B4 B1
  go_wp2
  go_loopw [8] (fun i wr => ∃ (k : Nat), k ≤ m5 ∧ i = .int .i64 k ∧ ∃ b T n, RInv w w4.heap.size w5.heap.size X (.slice a5 m5 c5) (cutA A) m5 k wr b T n)
    (fun i _ => m5 - (intOf i).toNat)
  case atStart => exact ⟨0, Nat.zero_le _, rfl, _, _, _, HI5.out⟩
  case round =>
    obtain ⟨k, hk, rfl, b6, T6, n6, hI⟩ := hrel
    have HI := Lib.hid hI
    by_cases hlt : k < m5
    · obtain ⟨a6, c6, e6, _, hcs⟩ := hI.2.2.2.2.1
      cases e6
      obtain ⟨q, off, rfl, hblo, hbhi, hcc⟩ := hcs (by omega)
      obtain ⟨e1, e2, e3⟩ := hcc k hlt
      have hn6 : n6 ≤ 1000000 := by have h8 := hI.2.1; have h9 : (k + 1) * 5000 ≤ 21 * 5000 := Nat.mul_le_mul_right _ (by omega); omega
      have hIa := hI.still (Below.refl wr.heap.size wr).drew
      have HSP := Lib.hid (splice_any w.heap.size wr.drew (hIa.rg HG.out) X b6 T6 n6 hn6 hIa.1 (cutA A k).1 (cutA A k).2.1 (cutA A k).2.2)
      have HST := Lib.hid (fun (W' : World) (F O N : Nat) (E : Int) (hsp : SpAny wr.drew w.heap.size X b6 T6 n6 (cutA A k).1 (cutA A k).2.1 (cutA A k).2.2.data.toList F O N E W') => hIa.step (by rw [← Lib.size_eq]; exact cut_size _) hsp)
      have HSC := Lib.hid (And.intro e1 (And.intro e2 e3))
      have HAC : Hid (∀ (W' : World) b' T' n', RInv w w4.heap.size w5.heap.size X (.slice (some ⟨q, off, none⟩) m5 c5) (cutA A) m5 (k + 1) W' b' T' n' → W'.cell? ⟨q, off + k * 3, none⟩ = some (.int .i64 (cutA A k).1) ∧ W'.cell? ⟨q, off + k * 3 + 1, none⟩ = some (.int .i64 (cutA A k).2.1) ∧ W'.cell? ⟨q, off + k * 3 + 2, none⟩ = some (.string (cutA A k).2.2)) := Lib.hid (fun W' b' T' n' hI' => by
        obtain ⟨_, _, e6, _, hcs'⟩ := hI'.2.2.2.2.1
        obtain ⟨q', off', e7, _, _, hcc'⟩ := hcs' (by omega)
        cases e6
        cases e7
        exact hcc' k hlt)
      obtain ⟨p0, hp0⟩ : ∃ p, p = (cutA A k).1 := ⟨_, rfl⟩
      obtain ⟨p1, hp1⟩ : ∃ p, p = (cutA A k).2.1 := ⟨_, rfl⟩
      obtain ⟨p2, hp2⟩ : ∃ p, p = (cutA A k).2.2 := ⟨_, rfl⟩
      rw [← hp0, ← hp1, ← hp2] at HSP HST HSC HAC
      rw [← hp0] at e1
      rw [← hp1] at e2
      rw [← hp2] at e3
      clear hcc hcs hI hIa hp0 hp1 hp2 hn6
      go_wp2_with fail
      go_region_held_law (fun w' => w'.cell? ⟨q, off + k * 3, none⟩ = some (.int .i64 p0) ∧ w'.cell? ⟨q, off + k * 3 + 1, none⟩ = some (.int .i64 p1) ∧ w'.cell? ⟨q, off + k * 3 + 2, none⟩ = some (.string p2))
        (first | exact HS7.out | exact ⟨e1, e2, e3⟩ | go_keep)
        (first
          | (go_at_call 15; refine HSP.out.mono ?_; rintro e w7 ⟨F, O, N, E, rfl, hsp⟩
             obtain ⟨b7, T7, hI7⟩ := HST.out w7 F O N E hsp
             have HI7 := Lib.hid hI7
             have HS7 := Lib.hid (HAC.out w7 _ _ _ hI7)
             clear hI7 hsp))
      go_wp2
      go_roundw
      case rel => exact ⟨k + 1, by omega, by simp, _, _, _, HI7.out⟩
      case measure => simp [intOf]; omega
    · obtain rfl : k = m5 := by omega
      have hsm := hI.1.small
      have L6 := Lib.hid hI.1
      have B6 := Lib.hid hI.2.2.1
      have G6 := Lib.hid (hI.rg HG.out)
      clear hI
      go_wp2_with fail
      refine (xtext_c wr _ X b6 T6 n6 L6.out).mono ?_
      rintro e w7 ⟨rfl, hb7⟩
      have L7 := Lib.hid (L6.out.below hb7)
      have B7 := Lib.hid (B6.out.trans (hb7.mono B6.out.size))
      have G7 := Lib.hid (HG.out.below B7.out (Nat.le_refl _))
      clear hb7
      go_wp2_with fail
      refine (new_ok w7 G7.out.here T6 hsm).mono ?_
      rintro e w8 ⟨Y, c, rfl, hl8, hb8⟩
      have L8 := Lib.hid (L7.out.below hb8)
      have M8 := Lib.hid hl8
      have B8 := Lib.hid (B7.out.trans (hb8.mono B7.out.size))
      clear hl8 hb8
      go_wp2_with fail
      refine (xtokens_c w8 _ X b6 T6 n6 L8.out).mono ?_
      rintro e w9 ⟨v9, rfl, ho9, hb9⟩
      have L9 := Lib.hid (L8.out.below hb9)
      have M9 := Lib.hid (M8.out.below hb9)
      have B9 := Lib.hid (B8.out.trans (hb9.mono B8.out.size))
      have V9 := Lib.hid (OwnL.tlT hsm ho9)
      clear ho9 hb9
      go_wp2_with fail
      refine (xtokens_c w9 _ Y c T6 _ M9.out).mono ?_
      rintro e w10 ⟨v10, rfl, ho10, hb10⟩
      have L10 := Lib.hid (L9.out.below hb10)
      have M10 := Lib.hid (M9.out.below hb10)
      have B10 := Lib.hid (B9.out.trans (hb10.mono B9.out.size))
      have V10 := Lib.hid (V9.out.below hb10)
      have U10 := Lib.hid (OwnL.tlT hsm ho10)
      clear ho10 hb10
      go_wp2_with fail
      refine (rsame_c v9 v10 _ _ w10 V10.out U10.out).mono ?_
      rintro e w11 ⟨rfl, hb11⟩
      have L11 := Lib.hid (L10.out.below hb11)
      have M11 := Lib.hid (M10.out.below hb11)
      have B11 := Lib.hid (B10.out.trans (hb11.mono B10.out.size))
      have hdec : decide (tokT T6 = tokT T6) = true := by simp
      rw [hdec]
      clear hb11 hdec
      go_wp2_with fail
      refine (xlines_c w11 _ X b6 T6 n6 L11.out).mono ?_
      rintro e w12 ⟨rfl, hw⟩
      obtain rfl := hw.symm
      clear hw
      go_wp2_with fail
      refine (xlines_c w11 _ Y c T6 _ M11.out).mono ?_
      rintro e w12 ⟨rfl, hw⟩
      obtain rfl := hw.symm
      clear hw
      go_wp2_with fail
      refine (xtokens_c w11 _ X b6 T6 n6 L11.out).mono ?_
      rintro e w12 ⟨v12, rfl, ho12, hb12⟩
      have L12 := Lib.hid (L11.out.below hb12)
      have B12 := Lib.hid (B11.out.trans (hb12.mono B11.out.size))
      have V12 := Lib.hid (OwnL.tlT hsm ho12)
      clear ho12 hb12
      go_wp2_with fail
      refine (rtext_c v12 _ w12 V12.out (by rw [textOf_tokT]; omega)).mono ?_
      rw [textOf_tokT]
      rintro e w13 ⟨rfl, hw⟩
      obtain rfl := hw.symm
      clear hw
      go_wp2_with fail
      refine (xtext_c w12 _ X b6 T6 n6 L12.out).mono ?_
      rintro e w14 ⟨rfl, hb14⟩
      have B14 := Lib.hid (B12.out.trans (hb14.mono B12.out.size))
      clear hb14
      go_wp2_with fail
      go_ret
      exact ⟨by simp, B14.out⟩
theorem whole_true (w : World) (hG : RG w.heap.size w) (x : ByteArray) (_ : x.size ≤ maxLen) (v : Value) (A : Nat → Int × Int × ByteArray) (len : Nat) (hA : ActsIn 0 w.heap.size w v A len) :
    Calls Tryz.prog 4 #[.string x, v] w fun e W' => e = .returned (.bool true) ∧ Below w.heap.size w W' := by
  by_cases h : (cut x).size ≤ 4000
  · exact whole_ok w hG x v A len hA h
  · exact whole_full w hG x v (by omega)
end Go.Proofs.YtkbidbmejpiomaaGreatDoor
