/- The statement GroupMatches, as a call. -/
import Derived.Test.YthbiflmmlcmncaaDoorGyH
import Derived.Test.YthbiflmmlcmncaaDoorGrRDeep
import Derived.Test.YthbiflmmlcmncaaDoorGrFew
namespace Go.Proofs.YthbiflmmlcmncaaDoor.Ti
open Go Go.RowKit Go.Shelf
attribute [local go_sem] Oper.semAt_some

theorem matchA_len (L : List Tk) : (matchA L).1.length ≤ L.length := by
  by_cases h : errA L = 0
  · obtain ⟨ps, _, _, hm⟩ := errA_ok h
    rw [hm, parts_len]
    exact Nat.le_refl _
  · rw [(errA_no h).1]
    exact Nat.zero_le _
theorem deepA_len (L : List Tk) : (deepA L).length ≤ L.length := by
  unfold deepA
  split
  · rw [deps_len]; exact Nat.le_refl _
  · exact Nat.zero_le _
theorem splitA_len (L : List Tk) (S : List UInt8) : (splitA L S).length ≤ L.length + 1 := by
  unfold splitA
  split
  · rw [List.length_append, List.length_singleton]
    have := splK_len L S L.length
    omega
  · exact Nat.zero_le _
theorem fewL_ok (L : List Tk) : ∀ t ∈ fewL L, t.text.length ≤ 10000 ∧ t.glyph.length ≤ 10000 := fun t ht => by
  have := fewL_small L t ht
  omega
theorem below_drewN {B : Nat} {a w : World} (h : Below B a w) (n : Nat) : Below B a (w.drewN n) := h.trans ⟨rfl, rfl, rfl, Nat.le_refl _, fun _ _ => rfl⟩
theorem few_tl (w : World) (v : Value) (L : List Tk) (h : TL w v L) (W : World) (hb : Below w.heap.size w W) : Calls Tryd.prog 11 #[v] W fun e W' => ∃ v', e = .returned v' ∧ TL W' v' (fewL L) ∧ Below W.heap.size W W' :=
  (few_c W v L (h.below hb)).mono fun e W' ⟨v', h1, h2, h3⟩ => ⟨v', h1, OwnL.tl (by have := fewL_len L; unfold maxLen; omega) h2, h3⟩

set_option maxRecDepth 100000 in
set_option maxHeartbeats 8000000 in
theorem matches_true (w : World) (hG : EG w) (v : Value) (L : List Tk) (h : TL w v L) (x : ByteArray) :
    Calls Tryd.prog 3 #[v, .string x] w fun e W' => e = .returned (.bool true) ∧ Below w.heap.size w W' := by
  obtain ⟨F, hF⟩ : ∃ F, F = fewL L := ⟨_, rfl⟩
  have hfl : F.length ≤ 60 := by rw [hF]; exact fewL_len L
  have hfew := few_tl w v L h
  rw [← hF] at hfew
  obtain ⟨A, hA⟩ : ∃ A, A = (matchA F).1 := ⟨_, rfl⟩
  obtain ⟨z, hz⟩ : ∃ z : Int, z = (((matchA F).2 : Nat) : Int) := ⟨_, rfl⟩
  obtain ⟨D, hD⟩ : ∃ D, D = deepA F := ⟨_, rfl⟩
  obtain ⟨y, hy⟩ : ∃ y : Int, y = ((errA F : Nat) : Int) := ⟨_, rfl⟩
  have hAl : A.length ≤ 1000 := by rw [hA]; have := matchA_len F; omega
  have hDl : D.length ≤ 1000 := by rw [hD]; have := deepA_len F; omega
  have HM1 : Hid (∀ W u, Below w.heap.size w W → TL W u F → Calls Tryd.prog 12 #[u] W fun e W' => ∃ v', e = .returned (.tuple #[v', .int .i64 z]) ∧ IL W' v' A ∧ Below W.heap.size W W') := Lib.hid (fun W u hb ht => (gmatch_c W (hG.step hb) u F ht (by omega)).mono fun e W' ⟨v', h1, h2, h3⟩ => by
    rw [← hA] at h2; rw [← hz] at h1; exact ⟨v', h1, h2.il, h3⟩)
  have HM2 : Hid (∀ W u, TL W u F → Calls Tryd.prog 13 #[u] W fun e W' => ∃ v', e = .returned (.tuple #[v', .int .i64 z]) ∧ IL W' v' A ∧ Below W.heap.size W W') := Lib.hid (fun W u ht => (rmatch_c W u F ht (by omega)).mono fun e W' ⟨v', h1, h2, h3⟩ => by
    rw [← hA] at h2; rw [← hz] at h1; exact ⟨v', h1, h2.il, h3⟩)
  have HD1 : Hid (∀ W u, Below w.heap.size w W → TL W u F → Calls Tryd.prog 14 #[u] W fun e W' => ∃ v', e = .returned (.tuple #[v', .int .i64 y]) ∧ IL W' v' D ∧ Below W.heap.size W W') := Lib.hid (fun W u hb ht => (gdeep_c W (hG.step hb) u F ht (by omega)).mono fun e W' ⟨v', h1, h2, h3⟩ => by
    rw [← hD] at h2; rw [← hy] at h1; exact ⟨v', h1, h2.il, h3⟩)
  have HD2 : Hid (∀ W u, TL W u F → Calls Tryd.prog 15 #[u] W fun e W' => ∃ v', e = .returned (.tuple #[v', .int .i64 y]) ∧ IL W' v' D ∧ Below W.heap.size W W') := Lib.hid (fun W u ht => (rdeep_c W u F ht (by omega)).mono fun e W' ⟨v', h1, h2, h3⟩ => by
    rw [← hD] at h2; rw [← hy] at h1; exact ⟨v', h1, h2.il, h3⟩)
  have hx : bs x.data.toList = x := bs_of x
  have HS1 : Hid (∀ t W, Calls Tryd.prog 16 #[.agg #[.int .i64 t.kind, .string (bs t.text), .string (bs t.glyph)], .string x] W fun e W' => e = .returned (.bool (isSgn t x.data.toList)) ∧ Below W.heap.size W W') := Lib.hid (fun t W => by
    have := isSign_c t x.data.toList W
    rw [hx] at this
    exact this)
  have HS2 : Hid (∀ t W, Calls Tryd.prog 17 #[.agg #[.int .i64 t.kind, .string (bs t.text), .string (bs t.glyph)], .string x] W fun e W' => e = .returned (.bool (isSgn t x.data.toList)) ∧ Below W.heap.size W W') := Lib.hid (fun t W => by
    have := risSign_c t x.data.toList W
    rw [hx] at this
    exact this)
  have HSH := Lib.hid (shown_c w hG)
  have HFEW := Lib.hid hfew
  obtain ⟨a9, c9, rfl, _, _⟩ := h.form
  clear h hfew hA hz hD hy hx hF hG
  go_enter Tryd.func3, Tryd.ntmps3
  go_wp2_with fail
  refine HSH.out.mono ?_
  rintro e w1 ⟨rfl, hb1⟩
  have B1 := Lib.hid hb1
  clear hb1
  go_wp2_with fail
  refine (HFEW.out _ B1.out).mono ?_
  rintro e w2 ⟨v2, rfl, hv2, hb2⟩
  have V2 := Lib.hid hv2
  have B2 := Lib.hid (B1.out.trans (hb2.mono B1.out.size))
  obtain ⟨a0, c0, rfl, hc1, hc2⟩ := hv2.form
  clear hv2 hb2
  go_wp2_with fail
  refine (HM1.out _ _ B2.out V2.out).mono ?_
  rintro e w3 ⟨m1, rfl, hm1, hb3⟩
  have V3 := Lib.hid (V2.out.below hb3)
  have B3 := Lib.hid (B2.out.trans (hb3.mono B2.out.size))
  have M3 := Lib.hid hm1
  clear hm1 hb3
  go_wp2_with fail
  refine (HM2.out _ _ V3.out).mono ?_
  rintro e w4 ⟨m2, rfl, hm2, hb4⟩
  have V4 := Lib.hid (V3.out.below hb4)
  have B4 := Lib.hid (B3.out.trans (hb4.mono B3.out.size))
  have M4 := Lib.hid (M3.out.below hb4)
  have N4 := Lib.hid hm2
  clear hm2 hb4
  go_wp2_with fail
  refine (HD1.out _ _ B4.out V4.out).mono ?_
  rintro e w5 ⟨d1, rfl, hd1, hb5⟩
  have V5 := Lib.hid (V4.out.below hb5)
  have B5 := Lib.hid (B4.out.trans (hb5.mono B4.out.size))
  have M5 := Lib.hid (M4.out.below hb5)
  have N5 := Lib.hid (N4.out.below hb5)
  have D5 := Lib.hid hd1
  clear hd1 hb5
  go_wp2_with fail
  refine (HD2.out _ _ V5.out).mono ?_
  rintro e w6 ⟨d2, rfl, hd2, hb6⟩
  have V6 := Lib.hid (V5.out.below hb6)
  have B6 := Lib.hid (B5.out.trans (hb6.mono B5.out.size))
  have M6 := Lib.hid (M5.out.below hb6)
  have N6 := Lib.hid (N5.out.below hb6)
  have D6 := Lib.hid (D5.out.below hb6)
  have E6 := Lib.hid hd2
  clear hd2 hb6
  have HCL := Lib.hid V6.out.cells
  obtain ⟨n, hn⟩ : ∃ n, n = F.length := ⟨_, rfl⟩
  rw [← hn] at hc1 hfl HCL ⊢
  unfold maxLen at hc2
  have HN := Lib.hid hn
  clear hn HM1 HM2 HD1 HD2 HFEW HSH V2 V3 V4 V5 M3 M4 M5 N4 N5 D5
  go_wp2
  go_loopw [14] (fun i wr => ∃ k : Nat, k ≤ n ∧ i = .int .i64 k ∧ Below w6.heap.size w6 wr) (fun i _ => n - (intOf i).toNat)
  case atStart => exact ⟨0, Nat.zero_le _, rfl, Below.refl _ _⟩
  case round =>
    obtain ⟨k, hk, rfl, hB⟩ := hrel
    have HB := Lib.hid hB
    by_cases hlt : k < n
    · obtain ⟨g, o, c2, hv, hg, hcs⟩ := HCL.out (by omega)
      obtain rfl : a0 = some ⟨g, o, none⟩ := by injection hv
      obtain ⟨t, ht⟩ : ∃ t, F[k]? = some t := ⟨_, List.getElem?_eq_getElem (by rw [← HN.out]; exact hlt)⟩
      obtain ⟨x0, x1, x2⟩ := hcs k t ht
      have HC : Hid (∀ W, Below w6.heap.size w6 W → W.cell? ⟨g, o + k * 3, none⟩ = some (.int .i64 t.kind) ∧ W.cell? ⟨g, o + k * 3 + 1, none⟩ = some (.string (bs t.text)) ∧ W.cell? ⟨g, o + k * 3 + 2, none⟩ = some (.string (bs t.glyph))) := Lib.hid (fun W hb =>
        ⟨(hb.cell (p := ⟨g, o + k * 3, none⟩) hg).trans x0, (hb.cell (p := ⟨g, o + k * 3 + 1, none⟩) hg).trans x1, (hb.cell (p := ⟨g, o + k * 3 + 2, none⟩) hg).trans x2⟩)
      have HT1 := Lib.hid (HS1.out t)
      have HT2 := Lib.hid (HS2.out t)
      obtain ⟨b, hb⟩ : ∃ b, b = isSgn t x.data.toList := ⟨_, rfl⟩
      rw [← hb] at HT1 HT2
      obtain ⟨kd, hkd⟩ : ∃ kd : Int, kd = t.kind := ⟨_, rfl⟩
      obtain ⟨U, hU⟩ : ∃ U, U = bs t.text := ⟨_, rfl⟩
      obtain ⟨G, hGl⟩ : ∃ G, G = bs t.glyph := ⟨_, rfl⟩
      rw [← hkd, ← hU, ← hGl] at HC HT1 HT2
      obtain ⟨y0, y1, y2⟩ := HC.out wr hB
      have hbn : (b != b) = false := by simp
      have HBD := Lib.hid hB.drew
      clear x0 x1 x2 hcs hv ht hb hkd hU hGl hB hg
      go_wp2_with fail
      go_region_held_law (fun w' => w'.cell? ⟨g, o + k * 3, none⟩ = some (.int .i64 kd) ∧ w'.cell? ⟨g, o + k * 3 + 1, none⟩ = some (.string U) ∧ w'.cell? ⟨g, o + k * 3 + 2, none⟩ = some (.string G))
        (first
          | exact HX8.out
          | exact HX7.out
          | exact ⟨y0, y1, y2⟩
          | go_keep)
        ((first
          | (go_at_call 16; refine (HT1.out _).mono ?_; rintro e w7 ⟨rfl, hb7⟩; have HB7 := Lib.hid (HBD.out.trans (hb7.mono HB.out.size)); have HX7 := Lib.hid (HC.out _ HB7.out); clear hb7)
          | (go_at_call 17; refine (HT2.out _).mono ?_; rintro e w8 ⟨rfl, hb8⟩; have HB8 := Lib.hid (HB7.out.trans (hb8.mono HB7.out.size)); have HX8 := Lib.hid (HC.out _ HB8.out); clear hb8)))
      all_goals
        go_wp2
        go_roundw
        case rel => exact ⟨k + 1, by omega, by go_num, HB8.out⟩
        case measure => simp [intOf]; omega
    · obtain rfl : k = n := by omega
      have M7 := Lib.hid (M6.out.below hB)
      have N7 := Lib.hid (N6.out.below hB)
      have D7 := Lib.hid (D6.out.below hB)
      have E7 := Lib.hid (E6.out.below hB)
      have B7 := Lib.hid (B6.out.trans (hB.mono B6.out.size))
      have hzz : (z == z) = true := by simp
      have hyy : (y == y) = true := by simp
      clear hB
      go_wp2_with fail
      refine (rints_same m1 m2 A wr M7.out N7.out hAl).mono ?_
      rintro e w8 ⟨rfl, hb8⟩
      have D8 := Lib.hid (D7.out.below hb8)
      have E8 := Lib.hid (E7.out.below hb8)
      have B8 := Lib.hid (B7.out.trans (hb8.mono B7.out.size))
      clear hb8
      go_wp2_with fail
      refine (rints_same d1 d2 D w8 D8.out E8.out hDl).mono ?_
      rintro e w9 ⟨rfl, hb9⟩
      have B9 := Lib.hid (B8.out.trans (hb9.mono B8.out.size))
      clear hb9
      go_wp2_with fail
      go_ret
      exact ⟨rfl, B9.out⟩
end Go.Proofs.YthbiflmmlcmncaaDoor.Ti
