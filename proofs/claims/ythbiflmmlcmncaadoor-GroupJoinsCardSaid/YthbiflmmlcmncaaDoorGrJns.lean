/- The statement GroupJoins, as a call. -/
import Derived.Test.YthbiflmmlcmncaaDoorGrDpr
import Derived.Test.YthbiflmmlcmncaaDoorGrApp
import Derived.Test.YthbiflmmlcmncaaDoorGrMore2
namespace Go.Proofs.YthbiflmmlcmncaaDoor.Ti
open Go Go.RowKit Go.Shelf
attribute [local go_sem] Oper.semAt_some

theorem few_own (w : World) (v : Value) (L : List Tk) (h : TL w v L) (W : World) (hb : Below w.heap.size w W) : Calls Tryd.prog 11 #[v] W fun e W' => ∃ a c, e = .returned (.slice a (fewL L).length c) ∧ TL W' (.slice a (fewL L).length c) (fewL L) ∧ Ap W' (.slice a (fewL L).length c) (fewL L) ∧ Below W.heap.size W W' :=
  (few_c W v L (h.below hb)).mono fun e W' ⟨v', h1, h2, h3⟩ => by
    obtain ⟨a, c, rfl⟩ := own_form h2
    exact ⟨a, c, h1, OwnL.tl (by have := fewL_len L; unfold maxLen; omega) h2, h2.ap, h3⟩
/-- Match at any list. -/
theorem match_any (w : World) (hG : EG w) (F : List Tk) (hl : F.length ≤ 1000) : ∀ W u, Below w.heap.size w W → TL W u F → Calls Tryd.prog 12 #[u] W fun e W' => ∃ a c, e = .returned (.tuple #[.slice a (matchA F).1.length c, .int .i64 ((errA F : Nat) : Int)]) ∧ IL W' (.slice a (matchA F).1.length c) (matchA F).1 ∧ Below W.heap.size W W' :=
  fun W u hb ht => (gmatch_c W (hG.step hb) u F ht hl).mono fun e W' ⟨v', h1, h2, h3⟩ => by
    obtain ⟨a, c, rfl⟩ := own_form h2
    exact ⟨a, c, h1, h2.il, h3⟩

set_option maxRecDepth 100000 in
set_option maxHeartbeats 16000000 in
theorem joins_no (w : World) (hG : EG w) (v u : Value) (L M : List Tk) (h : TL w v L) (k : TL w u M) (h0 : ¬ (errA (fewL L) = 0 ∧ errA (fewL M) = 0)) :
    Calls Tryd.prog 9 #[v, u] w fun e W' => e = .returned (.bool true) ∧ Below w.heap.size w W' := by
  obtain ⟨F, hF⟩ : ∃ F, F = fewL L := ⟨_, rfl⟩
  obtain ⟨G, hG2⟩ : ∃ F, F = fewL M := ⟨_, rfl⟩
  have hfl : F.length ≤ 60 := by rw [hF]; exact fewL_len L
  have hgl : G.length ≤ 60 := by rw [hG2]; exact fewL_len M
  have hf1 := few_own w v L h
  have hf2 := few_own w u M k
  rw [← hF] at hf1 h0
  rw [← hG2] at hf2 h0
  have HM1 := Lib.hid (match_any w hG F (by omega))
  have HM2 := Lib.hid (match_any w hG G (by omega))
  have HM3 := Lib.hid (match_any w hG (F ++ G) (by rw [List.length_append]; omega))
  have HSH := Lib.hid (shown_c w hG)
  have HF1 := Lib.hid hf1
  have HF2 := Lib.hid hf2
  obtain ⟨a9, c9, rfl, _, _⟩ := h.form
  obtain ⟨b9, d9, rfl, _, _⟩ := k.form
  obtain ⟨y, hy⟩ : ∃ y : Nat, y = errA F := ⟨_, rfl⟩
  obtain ⟨z, hz⟩ : ∃ y : Nat, y = errA G := ⟨_, rfl⟩
  rw [← hy] at h0 HM1
  rw [← hz] at h0 HM2
  have HFG : Hid (F.length ≤ 60 ∧ G.length ≤ 60) := Lib.hid ⟨hfl, hgl⟩
  clear h k hf1 hf2 hF hG2 hG hy hz hfl hgl
  go_enter Tryd.func9, Tryd.ntmps9
  go_wp2_with fail
  refine HSH.out.mono ?_
  rintro e w1 ⟨rfl, hb1⟩
  have B1 := Lib.hid hb1
  clear hb1
  go_wp2_with fail
  refine (HF1.out _ B1.out).mono ?_
  rintro e w2 ⟨a1, c1, rfl, ht2, hp2, hb2⟩
  have V2 := Lib.hid ht2
  have Q2 := Lib.hid hp2
  have B2 := Lib.hid (B1.out.trans (hb2.mono B1.out.size))
  clear ht2 hp2 hb2
  go_wp2_with fail
  refine (HF2.out _ B2.out).mono ?_
  rintro e w3 ⟨a2, c2, rfl, ht3, hp3, hb3⟩
  have V3 := Lib.hid (V2.out.below hb3)
  have Q3 := Lib.hid (Q2.out.below hb3)
  have U3 := Lib.hid ht3
  have R3 := Lib.hid hp3
  have B3 := Lib.hid (B2.out.trans (hb3.mono B2.out.size))
  clear ht3 hp3 hb3
  go_wp2_with fail
  refine (HM1.out _ _ B3.out V3.out).mono ?_
  rintro e w4 ⟨p1, q1, rfl, hm4, hb4⟩
  have Q4 := Lib.hid (Q3.out.below hb4)
  have U4 := Lib.hid (U3.out.below hb4)
  have R4 := Lib.hid (R3.out.below hb4)
  have B4 := Lib.hid (B3.out.trans (hb4.mono B3.out.size))
  clear hm4 hb4
  go_wp2_with fail
  refine (HM2.out _ _ B4.out U4.out).mono ?_
  rintro e w5 ⟨p2, q2, rfl, hm5, hb5⟩
  have Q5 := Lib.hid (Q4.out.below hb5)
  have R5 := Lib.hid (R4.out.below hb5)
  have B5 := Lib.hid (B4.out.trans (hb5.mono B4.out.size))
  clear hm5 hb5
  go_wp2_with (at_builtin; refine append_two rfl (.tmp 30) (.tmp 31) rfl w5.heap.size (.slice none 0 0) (.slice a1 F.length c1) [] F rfl rfl (World.ownsRow_nil _ _ _ _) Q5.out (by have := HFG.out; simp; omega) (Nat.le_refl _) ?_)
  intro v6 w6 ho6 hb6
  have O6 := Lib.hid ho6
  have R6 := Lib.hid (R5.out.below hb6)
  have B6 := Lib.hid (B5.out.trans (hb6.mono B5.out.size))
  have S6 : Hid (w5.heap.size ≤ w6.heap.size) := Lib.hid hb6.size
  clear ho6 hb6
  go_wp2_with (at_builtin; refine append_two rfl (.tmp 32) (.tmp 33) rfl w5.heap.size v6 (.slice a2 G.length c2) ([] ++ F) G rfl rfl O6.out R6.out (by have := HFG.out; simp; omega) S6.out ?_)
  intro v7 w7 ho7 hb7
  have V7 : Hid (TL w7 v7 (F ++ G)) := Lib.hid (OwnL.tl (by have := HFG.out; rw [List.length_append]; unfold maxLen; omega) ho7)
  have B7 := Lib.hid (B6.out.trans (hb7.mono B5.out.size))
  clear ho7 hb7
  go_wp2_with fail
  refine (HM3.out _ _ B7.out V7.out).mono ?_
  rintro e w8 ⟨p3, q3, rfl, hm8, hb8⟩
  have B8 := Lib.hid (B7.out.trans (hb8.mono B7.out.size))
  clear hm8 hb8
  by_cases hy0 : y = 0
  · have hz1 : ((z : Int) != 0) = true := by simp; omega
    subst hy0
    clear h0
    go_wp2_with fail
    go_ret
    exact ⟨rfl, B8.out⟩
  · have hy1 : ((y : Int) != 0) = true := by simp; omega
    clear h0 hy0
    go_wp2_with fail
    go_ret
    exact ⟨rfl, B8.out⟩
theorem prt_join {F G : List Tk} (hF : errA F = 0) (hG : errA G = 0) {i : Nat} (hi : i < F.length + G.length) : prt (F ++ G) i = if i < F.length then prt F i else if 0 ≤ prt G (i - F.length) then prt G (i - F.length) + (F.length : Int) else -1 := by
  have := join_parts hF hG (i := i) (by rw [List.length_append]; exact hi)
  unfold prt
  rw [this]
  rfl

set_option maxRecDepth 100000 in
set_option maxHeartbeats 16000000 in
theorem joins_ok (w : World) (hG : EG w) (v u : Value) (L M : List Tk) (h : TL w v L) (k : TL w u M) (h1 : errA (fewL L) = 0) (h2 : errA (fewL M) = 0) :
    Calls Tryd.prog 9 #[v, u] w fun e W' => e = .returned (.bool true) ∧ Below w.heap.size w W' := by
  obtain ⟨F, hF⟩ : ∃ F, F = fewL L := ⟨_, rfl⟩
  obtain ⟨G, hG2⟩ : ∃ F, F = fewL M := ⟨_, rfl⟩
  have hfl : F.length ≤ 60 := by rw [hF]; exact fewL_len L
  have hgl : G.length ≤ 60 := by rw [hG2]; exact fewL_len M
  have hf1 := few_own w v L h
  have hf2 := few_own w u M k
  rw [← hF] at hf1 h1
  rw [← hG2] at hf2 h2
  have h3 := (join_err h1 h2).1
  obtain ⟨la, ma⟩ := matchA_at h1
  obtain ⟨lb, mb⟩ := matchA_at h2
  obtain ⟨lc, mc⟩ := matchA_at h3
  have HM1 := match_any w hG F (by omega)
  have HM2 := match_any w hG G (by omega)
  have HM3 := match_any w hG (F ++ G) (by rw [List.length_append]; omega)
  have cz : ((0 : Nat) : Int) = 0 := rfl
  rw [h1, la, cz] at HM1
  rw [h2, lb, cz] at HM2
  rw [h3, lc, List.length_append, cz] at HM3
  have HPJ := Lib.hid (fun i (hi : i < F.length + G.length) => prt_join h1 h2 hi)
  rw [List.length_append] at mc
  have hbp : ∀ j, j < G.length → prt G j = -1 ∨ ∃ i : Nat, prt G j = (i : Int) ∧ i < G.length := fun j hj => by
    rcases (prt_facts h2 hj).2 with e | ⟨b, e1, e2, _⟩
    · exact .inl e
    · exact .inr ⟨b, e1, e2⟩
  have HSH := Lib.hid (shown_c w hG)
  obtain ⟨n, hn⟩ : ∃ n, n = F.length := ⟨_, rfl⟩
  obtain ⟨m, hm⟩ : ∃ n, n = G.length := ⟨_, rfl⟩
  obtain ⟨N, hN⟩ : ∃ N, N = n + m := ⟨_, rfl⟩
  rw [← hn] at hf1 HM1 HM3 HPJ ma mc la
  rw [← hm] at hf2 HM2 HM3 HPJ mb mc lb hbp
  rw [← hN] at HM3 HPJ mc
  have hlc : (matchA (F ++ G)).1.length = N := by rw [lc, List.length_append, ← hn, ← hm, hN]
  have HNN := Lib.hid hN
  have HBQ := Lib.hid hbp
  have HM1 := Lib.hid HM1
  have HM2 := Lib.hid HM2
  have HM3 := Lib.hid HM3
  have HF1 := Lib.hid hf1
  have HF2 := Lib.hid hf2
  have HMA := Lib.hid (And.intro la ma)
  have HMB := Lib.hid (And.intro lb mb)
  have HMC := Lib.hid (And.intro hlc mc)
  obtain ⟨a9, c9, rfl, _, _⟩ := h.form
  obtain ⟨b9, d9, rfl, _, _⟩ := k.form
  have HFG : Hid (n = F.length ∧ m = G.length ∧ F.length ≤ 60 ∧ G.length ≤ 60) := Lib.hid ⟨hn, hm, hfl, hgl⟩
  have hnl : n ≤ 60 := by omega
  have hml : m ≤ 60 := by omega
  clear h k hf1 hf2 hF hG2 hG hfl hgl h1 h2 h3 la lb lc ma mb mc hlc hn hm hbp cz hN
  go_enter Tryd.func9, Tryd.ntmps9
  go_wp2_with fail
  refine HSH.out.mono ?_
  rintro e w1 ⟨rfl, hb1⟩
  have B1 := Lib.hid hb1
  clear hb1
  go_wp2_with fail
  refine (HF1.out _ B1.out).mono ?_
  rintro e w2 ⟨a1, c1, rfl, ht2, hp2, hb2⟩
  have V2 := Lib.hid ht2
  have Q2 := Lib.hid hp2
  have B2 := Lib.hid (B1.out.trans (hb2.mono B1.out.size))
  clear ht2 hp2 hb2
  go_wp2_with fail
  refine (HF2.out _ B2.out).mono ?_
  rintro e w3 ⟨a2, c2, rfl, ht3, hp3, hb3⟩
  have V3 := Lib.hid (V2.out.below hb3)
  have Q3 := Lib.hid (Q2.out.below hb3)
  have U3 := Lib.hid ht3
  have R3 := Lib.hid hp3
  have B3 := Lib.hid (B2.out.trans (hb3.mono B2.out.size))
  clear ht3 hp3 hb3
  go_wp2_with fail
  refine (HM1.out _ _ B3.out V3.out).mono ?_
  rintro e w4 ⟨p1, q1, rfl, hm4, hb4⟩
  have Q4 := Lib.hid (Q3.out.below hb4)
  have U4 := Lib.hid (U3.out.below hb4)
  have R4 := Lib.hid (R3.out.below hb4)
  have B4 := Lib.hid (B3.out.trans (hb4.mono B3.out.size))
  have X4 := Lib.hid hm4
  clear hm4 hb4
  go_wp2_with fail
  refine (HM2.out _ _ B4.out U4.out).mono ?_
  rintro e w5 ⟨p2, q2, rfl, hm5, hb5⟩
  have Q5 := Lib.hid (Q4.out.below hb5)
  have R5 := Lib.hid (R4.out.below hb5)
  have B5 := Lib.hid (B4.out.trans (hb5.mono B4.out.size))
  have X5 := Lib.hid (X4.out.below hb5)
  have Y5 := Lib.hid hm5
  clear hm5 hb5
  go_wp2_with (at_builtin; refine append_two rfl (.tmp 30) (.tmp 31) rfl w5.heap.size (.slice none 0 0) (.slice a1 n c1) [] F rfl rfl (World.ownsRow_nil _ _ _ _) Q5.out (by have := HFG.out; simp; omega) (Nat.le_refl _) ?_)
  intro v6 w6 ho6 hb6
  have O6 := Lib.hid ho6
  have R6 := Lib.hid (R5.out.below hb6)
  have X6 := Lib.hid (X5.out.below hb6)
  have Y6 := Lib.hid (Y5.out.below hb6)
  have B6 := Lib.hid (B5.out.trans (hb6.mono B5.out.size))
  have S6 : Hid (w5.heap.size ≤ w6.heap.size) := Lib.hid hb6.size
  have T6 := Lib.hid hb6
  clear ho6 hb6
  go_wp2_with (at_builtin; refine append_two rfl (.tmp 32) (.tmp 33) rfl w5.heap.size v6 (.slice a2 m c2) ([] ++ F) G rfl rfl O6.out R6.out (by have := HFG.out; simp; omega) S6.out ?_)
  intro v7 w7 ho7 hb7
  have V7 : Hid (TL w7 v7 (F ++ G)) := Lib.hid (OwnL.tl (by have := HFG.out; rw [List.length_append]; unfold maxLen; omega) ho7)
  have B7 := Lib.hid (B6.out.trans (hb7.mono B5.out.size))
  have X7 := Lib.hid (X5.out.below (T6.out.trans hb7))
  have Y7 := Lib.hid (Y5.out.below (T6.out.trans hb7))
  obtain ⟨b0, e0, rfl⟩ := own_form ho7
  have hlen7 : (F ++ G).length = N := by rw [List.length_append, ← HFG.out.1, ← HFG.out.2.1, HNN.out]
  rw [hlen7] at V7 ⊢
  clear ho7 hb7 hlen7
  go_wp2_with fail
  refine (HM3.out _ _ B7.out V7.out).mono ?_
  rintro e w8 ⟨p3, q3, rfl, hm8, hb8⟩
  have B8 := Lib.hid (B7.out.trans (hb8.mono B7.out.size))
  have X8 := Lib.hid (X7.out.below hb8)
  have Y8 := Lib.hid (Y7.out.below hb8)
  have Z8 := Lib.hid hm8
  clear hm8 hb8
  have HXC : Hid (0 < n → ∃ g c0, Value.slice p1 n q1 = .slice (some ⟨g, 0, none⟩) n c0 ∧ g < w8.heap.size ∧ ∀ j, j < n → w8.cell? ⟨g, j, none⟩ = some (.int .i64 (prt F j))) := Lib.hid (fun h9 => by
    obtain ⟨g, c, e1, e2, e3⟩ := X8.out.cells (by rw [HMA.out.1]; exact h9)
    rw [HMA.out.1] at e1
    exact ⟨g, c, e1, e2, fun j hj => e3 j _ (HMA.out.2 j hj)⟩)
  have HYC : Hid (0 < m → ∃ g c0, Value.slice p2 m q2 = .slice (some ⟨g, 0, none⟩) m c0 ∧ g < w8.heap.size ∧ ∀ j, j < m → w8.cell? ⟨g, j, none⟩ = some (.int .i64 (prt G j))) := Lib.hid (fun h9 => by
    obtain ⟨g, c, e1, e2, e3⟩ := Y8.out.cells (by rw [HMB.out.1]; exact h9)
    rw [HMB.out.1] at e1
    exact ⟨g, c, e1, e2, fun j hj => e3 j _ (HMB.out.2 j hj)⟩)
  have HZC : Hid (0 < N → ∃ g c0, Value.slice p3 N q3 = .slice (some ⟨g, 0, none⟩) N c0 ∧ g < w8.heap.size ∧ ∀ j, j < N → w8.cell? ⟨g, j, none⟩ = some (.int .i64 (prt (F ++ G) j))) := Lib.hid (fun h9 => by
    obtain ⟨g, c, e1, e2, e3⟩ := Z8.out.cells (by rw [HMC.out.1]; exact h9)
    rw [HMC.out.1] at e1
    exact ⟨g, c, e1, e2, fun j hj => e3 j _ (HMC.out.2 j hj)⟩)
  have HBP : Hid (∀ j, j < m → prt G j = -1 ∨ ∃ i : Nat, prt G j = (i : Int) ∧ i < m) := HBQ
  clear HM1 HM2 HM3 HF1 HF2 HSH V2 V3 U3 Q2 Q3 R3 Q4 U4 R4 X4 Q5 R5 X5 Y5 O6 R6 X6 Y6 S6 T6 V7 X7 Y7 X8 Y8 Z8 B1 B2 B3 B4 B5 B6 B7 HMA HMB HMC
  go_wp2
  go_loopw [13, 14] (fun i _ wr => ∃ k : Nat, k ≤ N ∧ i = .int .i64 k ∧ Below w8.heap.size w8 wr) (fun i _ _ => N - (intOf i).toNat)
  case atStart => exact ⟨0, Nat.zero_le _, rfl, Below.refl _ _⟩
  case round =>
    obtain ⟨k, hk, rfl, hB⟩ := hrel
    have HB := Lib.hid hB
    have hNs := HNN.out
    by_cases hlt : k < N
    · obtain ⟨g, c3, hv, hg, hcs⟩ := HZC.out (by omega)
      obtain rfl : p3 = some ⟨g, 0, none⟩ := by injection hv
      have e1 := (hB.cell (p := ⟨g, k, none⟩) hg).trans (hcs k hlt)
      have hpj := HPJ.out k hlt
      by_cases hkn : k < n
      · obtain ⟨g2, c4, hv2, hg2, hcs2⟩ := HXC.out (by omega)
        obtain rfl : p1 = some ⟨g2, 0, none⟩ := by injection hv2
        have e2 := (hB.cell (p := ⟨g2, k, none⟩) hg2).trans (hcs2 k hkn)
        rw [if_pos hkn] at hpj
        rw [hpj] at e1
        obtain ⟨z, hz⟩ : ∃ z, z = prt F k := ⟨_, rfl⟩
        rw [← hz] at e1 e2
        have t1 : (z != z) = false := by simp
        clear hB hv hg hcs hv2 hg2 hcs2 hpj hz hNs
        go_wp2
        go_roundw
        case rel => exact ⟨k + 1, by omega, by go_num, HB.out⟩
        case measure => simp [intOf]; omega
      · obtain ⟨g2, c4, hv2, hg2, hcs2⟩ := HYC.out (by omega)
        obtain rfl : p2 = some ⟨g2, 0, none⟩ := by injection hv2
        obtain ⟨b, hb⟩ : ∃ b, b = k - n := ⟨_, rfl⟩
        have e2 := (hB.cell (p := ⟨g2, b, none⟩) hg2).trans (hcs2 b (by omega))
        have es : (k : Int) - (n : Int) = (b : Int) := by omega
        have hbm : b < m := by omega
        rw [← hb] at hpj
        rw [if_neg hkn] at hpj
        rcases HBP.out b (by omega) with hz | ⟨i, hz, hil⟩
        · rw [hz, if_neg (by omega)] at hpj
          rw [hpj] at e1
          rw [hz] at e2
          clear hB hv hg hcs hv2 hg2 hcs2 hpj hz hNs hb
          go_wp2
          go_roundw
          case rel => exact ⟨k + 1, by omega, by go_num, HB.out⟩
          case measure => simp [intOf]; omega
        · rw [hz, if_pos (by omega)] at hpj
          rw [hpj] at e1
          rw [hz] at e2
          have t1 : ((i : Int) + (n : Int) != (i : Int) + (n : Int)) = false := by simp
          have t2 : (0 : Int) ≤ (i : Int) := by omega
          clear hB hv hg hcs hv2 hg2 hcs2 hpj hz hNs hb
          go_wp2
          go_roundw
          case rel => exact ⟨k + 1, by omega, by go_num, HB.out⟩
          case measure => simp [intOf]; omega
    · obtain rfl : k = N := by omega
      have B9 := Lib.hid (B8.out.trans (hB.mono B8.out.size))
      clear hB hNs
      go_wp2
      go_ret
      exact ⟨rfl, B9.out⟩
theorem joins_true (w : World) (hG : EG w) (v : Value) (L : List Tk) (h : TL w v L) (u : Value) (M : List Tk) (k : TL w u M) :
    Calls Tryd.prog 9 #[v, u] w fun e W' => e = .returned (.bool true) ∧ Below w.heap.size w W' := by
  by_cases h0 : errA (fewL L) = 0 ∧ errA (fewL M) = 0
  · exact joins_ok w hG v u L M h k h0.1 h0.2
  · exact joins_no w hG v u L M h k h0
end Go.Proofs.YthbiflmmlcmncaaDoor.Ti
