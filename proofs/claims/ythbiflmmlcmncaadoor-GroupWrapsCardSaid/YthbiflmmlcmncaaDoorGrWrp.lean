/- The statement GroupWraps, as a call. -/
import Derived.Test.YthbiflmmlcmncaaDoorGrJns
namespace Go.Proofs.YthbiflmmlcmncaaDoor.Ti
open Go Go.RowKit Go.Shelf
attribute [local go_sem] Oper.semAt_some

def oTk : Tk := ⟨8, [40], [40]⟩
def cTk : Tk := ⟨8, [41], [41]⟩
theorem deep_any (w : World) (hG : EG w) (F : List Tk) (hl : F.length ≤ 1000) : ∀ W u, Below w.heap.size w W → TL W u F → Calls Tryd.prog 14 #[u] W fun e W' => ∃ a c, e = .returned (.tuple #[.slice a (deepA F).length c, .int .i64 ((errA F : Nat) : Int)]) ∧ IL W' (.slice a (deepA F).length c) (deepA F) ∧ Below W.heap.size W W' :=
  fun W u hb ht => (gdeep_c W (hG.step hb) u F ht hl).mono fun e W' ⟨v', h1, h2, h3⟩ => by
    obtain ⟨a, c, rfl⟩ := own_form h2
    exact ⟨a, c, h1, h2.il, h3⟩
theorem wrap_small {F : List Tk} (h : ∀ t ∈ F, t.text.length ≤ 10000 ∧ t.glyph.length ≤ 10000) : ∀ t ∈ oTk :: F ++ [cTk], t.text.length ≤ 10000 ∧ t.glyph.length ≤ 10000 := fun t ht => by
  rcases List.mem_append.1 ht with h1 | h1
  · rcases List.mem_cons.1 h1 with rfl | h2
    · decide
    · exact h t h2
  · rw [List.mem_singleton.1 h1]; decide
/-- What the wrapped list tells. -/
structure WrapF (F : List Tk) (y z g : Nat) (I : List Tk) : Prop where
  deep : y = 61 → ¬ z = 0
  no_ : ¬ y = 0 → y = 60 ∨ y = 61
  ok : y = 0 → z = 0 ∨ z = 61
  all : y = 0 → z = 0 → (deepA F).length = F.length ∧ (deepA (oTk :: F ++ [cTk])).length = F.length + 2 ∧ g = 0 ∧ I = F ∧ (deepA (oTk :: F ++ [cTk]))[0]? = some 0 ∧
    ∀ i, i < F.length → ∃ d : Nat, d ≤ 1000 ∧ (deepA F)[i]? = some (d : Int) ∧ (deepA (oTk :: F ++ [cTk]))[i + 1]? = some ((d + 1 : Nat) : Int)
theorem wrap_facts (F : List Tk) (hl : F.length ≤ 60) : WrapF F (errA F) (errA (oTk :: F ++ [cTk])) (insideA (oTk :: F ++ [cTk]) 0).2 (insideA (oTk :: F ++ [cTk]) 0).1 := by
  have ho : isO oTk = true := by decide
  have hc : isC cTk = true := by decide
  have hf : fit oTk cTk = true := by decide
  refine ⟨fun e => wrap_deep ho e, fun e => (errA_no e).2, fun e => wrap_err ho hc hf e, fun e e2 => ?_⟩
  obtain ⟨t1, t2, t3⟩ := wrap_tells ho hc hf e e2
  obtain ⟨d1, d2⟩ := deepA_at e
  obtain ⟨x1, x2⟩ := deepA_at e2
  have hlen : (oTk :: F ++ [cTk]).length = F.length + 2 := by simp
  rw [hlen] at x1 x2
  refine ⟨d1, x1, by rw [t3], by rw [t3], ?_, fun i hi => ⟨depT F i, ?_, d2 i hi, ?_⟩⟩
  · rw [x2 0 (by omega), t2]; rfl
  · have := depT_le F hl i e; omega
  · rw [x2 (i + 1) (by omega), t1 i hi]

set_option maxRecDepth 100000 in
set_option maxHeartbeats 16000000 in
theorem wraps_true (w : World) (hG : EG w) (v : Value) (L : List Tk) (h : TL w v L) :
    Calls Tryd.prog 7 #[v] w fun e W' => e = .returned (.bool true) ∧ Below w.heap.size w W' := by
  obtain ⟨F, hF⟩ : ∃ F, F = fewL L := ⟨_, rfl⟩
  have hfl : F.length ≤ 60 := by rw [hF]; exact fewL_len L
  have hfo : ∀ t ∈ F, t.text.length ≤ 10000 ∧ t.glyph.length ≤ 10000 := by rw [hF]; exact fewL_ok L
  have hf1 := few_own w v L h
  rw [← hF] at hf1
  have hwf := wrap_facts F hfl
  obtain ⟨X, hX⟩ : ∃ X, X = oTk :: F ++ [cTk] := ⟨_, rfl⟩
  have hXl : X.length = F.length + 2 := by rw [hX]; simp
  have hD1 := deep_any w hG F (by omega)
  have hD2 := deep_any w hG X (by omega)
  obtain ⟨I, hI⟩ : ∃ I, I = (insideA X 0).1 := ⟨_, rfl⟩
  obtain ⟨g, hg⟩ : ∃ I, I = (insideA X 0).2 := ⟨_, rfl⟩
  have hIN : ∀ W u, Below w.heap.size w W → TL W u X → Calls Tryd.prog 21 #[u, .int .i64 0] W fun e W' => ∃ v', e = .returned (.tuple #[v', .int .i64 (g : Int)]) ∧ TL W' v' I ∧ Below W.heap.size W W' := fun W u hb ht => by
    have := ginside_c W (hG.step hb) u X 0 ht (by omega) (by rw [hX]; exact wrap_small hfo)
    rw [← hI, ← hg] at this
    exact this
  obtain ⟨y, hy⟩ : ∃ y : Nat, y = errA F := ⟨_, rfl⟩
  obtain ⟨z, hz⟩ : ∃ y : Nat, y = errA X := ⟨_, rfl⟩
  obtain ⟨D, hD⟩ : ∃ D, D = deepA F := ⟨_, rfl⟩
  obtain ⟨E, hE⟩ : ∃ D, D = deepA X := ⟨_, rfl⟩
  rw [← hX, ← hy, ← hz, ← hg, ← hI] at hwf
  rw [← hy, ← hD] at hD1
  rw [← hz, ← hE] at hD2
  have HALL := Lib.hid (fun a b => hwf.all a b)
  rw [← hX, ← hD, ← hE] at HALL
  have HW1 : Hid (y = 61 → ¬ z = 0) := Lib.hid hwf.deep
  have HW2 : Hid (¬ y = 0 → y = 60 ∨ y = 61) := Lib.hid hwf.no_
  have HW3 : Hid (y = 0 → z = 0 ∨ z = 61) := Lib.hid hwf.ok
  have HD1 := Lib.hid hD1
  have HD2 := Lib.hid hD2
  have HIN := Lib.hid hIN
  have HSH := Lib.hid (shown_c w hG)
  have HF1 := Lib.hid hf1
  have HX := Lib.hid hX
  obtain ⟨n, hn⟩ : ∃ n, n = F.length := ⟨_, rfl⟩
  rw [← hn] at HF1 HALL hfl
  have HN := Lib.hid hn
  obtain ⟨dl, hdl⟩ : ∃ n, n = D.length := ⟨_, rfl⟩
  obtain ⟨el, hel⟩ : ∃ n, n = E.length := ⟨_, rfl⟩
  rw [← hdl] at HD1 HALL
  rw [← hel] at HD2 HALL
  have HDL := Lib.hid hdl
  have HEL := Lib.hid hel
  obtain ⟨a9, c9, rfl, _, _⟩ := h.form
  clear h hf1 hF hfo hwf hX hXl hD1 hD2 hIN hI hg hy hz hD hE hn hdl hel hG
  go_enter Tryd.func7, Tryd.ntmps7
  go_wp2_with fail
  refine HSH.out.mono ?_
  rintro e w1 ⟨rfl, hb1⟩
  have B1 := Lib.hid hb1
  clear hb1
  go_wp2_with fail
  refine (HF1.out _ B1.out).mono ?_
  rintro e w2 ⟨a1, c1, rfl, ht2, hp2, hb2⟩
  have V2 := Lib.hid ht2
  have Q2 := Lib.hid hp2
  have T2 := Lib.hid ht2
  have B2 := Lib.hid (B1.out.trans (hb2.mono B1.out.size))
  clear ht2 hp2 hb2
  go_wp2_with fail
  refine (HD1.out _ _ B2.out V2.out).mono ?_
  rintro e w3 ⟨p1, q1, rfl, hm3, hb3⟩
  have V3 := Lib.hid (V2.out.below hb3)
  have Q3 := Lib.hid (Q2.out.below hb3)
  have B3 := Lib.hid (B2.out.trans (hb3.mono B2.out.size))
  have X3 := Lib.hid hm3
  have hal : Below w3.heap.size w3 (w3.alloc (.cells #[.int .i64 8, .string ⟨#[40]⟩, .string ⟨#[40]⟩] 31)) := (Below.refl _ _).alloc (Nat.le_refl _) _
  have A3 : Hid (Ap (w3.alloc (.cells #[.int .i64 8, .string ⟨#[40]⟩, .string ⟨#[40]⟩] 31)) (.slice (some ⟨w3.heap.size, 0, none⟩) 1 1) [oTk]) := Lib.hid (Ap.one w3 oTk)
  have L3 := Lib.hid hal
  have S3 : Hid (w3.heap.size ≤ (w3.alloc (.cells #[.int .i64 8, .string ⟨#[40]⟩, .string ⟨#[40]⟩] 31)).heap.size) := Lib.hid hal.size
  clear hm3 hb3 hal
  go_wp2_with (at_builtin; refine append_two rfl (.tmp 20) (.tmp 22) rfl w3.heap.size (.slice none 0 0) (.slice (some ⟨w3.heap.size, 0, none⟩) 1 1) [] [oTk] rfl rfl (World.ownsRow_nil _ _ _ _) A3.out (by simp) S3.out ?_)
  intro v4 w4 ho4 hb4
  have O4 := Lib.hid ho4
  have K4 : Hid (Below w3.heap.size w3 w4) := Lib.hid (L3.out.trans hb4)
  have Q4 := Lib.hid (Q3.out.below (L3.out.trans hb4))
  have S4 : Hid (w3.heap.size ≤ w4.heap.size) := Lib.hid (L3.out.trans hb4).size
  clear ho4 hb4
  go_wp2_with (at_builtin; refine append_two rfl (.tmp 23) (.tmp 24) rfl w3.heap.size v4 (.slice a1 n c1) [oTk] F rfl rfl O4.out Q4.out (by have := HN.out; simp; omega) S4.out ?_)
  intro v5 w5 ho5 hb5
  have K5 : Hid (Below w3.heap.size w3 w5) := Lib.hid (K4.out.trans hb5)
  have hal5 : Below w3.heap.size w5 (w5.alloc (.cells #[.int .i64 8, .string ⟨#[41]⟩, .string ⟨#[41]⟩] 31)) := (Below.refl _ _).alloc (Nat.le_trans S4.out hb5.size) _
  have A5 : Hid (Ap (w5.alloc (.cells #[.int .i64 8, .string ⟨#[41]⟩, .string ⟨#[41]⟩] 31)) (.slice (some ⟨w5.heap.size, 0, none⟩) 1 1) [cTk]) := Lib.hid (Ap.one w5 cTk)
  have O5 : Hid (OwnL (w5.alloc (.cells #[.int .i64 8, .string ⟨#[41]⟩, .string ⟨#[41]⟩] 31)) w3.heap.size v5 (oTk :: F)) := Lib.hid (ho5.alloc _)
  have L5 := Lib.hid (K5.out.trans hal5)
  have S5 : Hid (w3.heap.size ≤ (w5.alloc (.cells #[.int .i64 8, .string ⟨#[41]⟩, .string ⟨#[41]⟩] 31)).heap.size) := Lib.hid (K5.out.trans hal5).size
  clear ho5 hb5 hal5
  go_wp2_with (at_builtin; refine append_two rfl (.tmp 25) (.tmp 27) rfl w3.heap.size v5 (.slice (some ⟨w5.heap.size, 0, none⟩) 1 1) (oTk :: F) [cTk] rfl rfl O5.out A5.out (by have := HN.out; simp; omega) S5.out ?_)
  intro v6 w6 ho6 hb6
  have K6 : Hid (Below w3.heap.size w3 w6) := Lib.hid (L5.out.trans hb6)
  have B6 := Lib.hid (B3.out.trans (K6.out.mono B3.out.size))
  have V6 : Hid (TL w6 v6 X) := Lib.hid (by rw [HX.out]; exact OwnL.tl (by have := HN.out; simp; unfold maxLen; omega) ho6)
  have Q6 := Lib.hid (V3.out.below K6.out)
  have X6 := Lib.hid (X3.out.below K6.out)
  clear ho6 hb6
  go_wp2_with fail
  refine (HD2.out _ _ B6.out V6.out).mono ?_
  rintro e w7 ⟨p2, q2, rfl, hm7, hb7⟩
  have V7 := Lib.hid (V6.out.below hb7)
  have Q7 := Lib.hid (Q6.out.below hb7)
  have B7 := Lib.hid (B6.out.trans (hb7.mono B6.out.size))
  have X7 := Lib.hid (X6.out.below hb7)
  have Y7 := Lib.hid hm7
  clear hm7 hb7
  go_wp2_with fail
  refine (HIN.out _ _ B7.out V7.out).mono ?_
  rintro e w8 ⟨v8, rfl, ht8, hb8⟩
  have Q8 := Lib.hid (Q7.out.below hb8)
  have B8 := Lib.hid (B7.out.trans (hb8.mono B7.out.size))
  have X8 := Lib.hid (X7.out.below hb8)
  have Y8 := Lib.hid (Y7.out.below hb8)
  have V8 := Lib.hid ht8
  clear ht8 hb8 HIN HD1 HD2 HSH HF1 V2 V3 Q2 Q3 Q4 V6 V7 X3 X6 X7 Y7 Q6 Q7 K4 K5 K6 A3 A5 O4 O5 L3 L5 S3 S4 S5 B1 B2 B3 B6 B7
  by_cases hy0 : y = 0
  · subst hy0
    have hz2 := HW3.out rfl
    by_cases hz0 : z = 0
    · subst hz0
      clear hz2
      obtain ⟨h1, h2, h3, h4, h5, h6⟩ := HALL.out rfl rfl
      subst h1 h3 h4
      have HE := Lib.hid h2
      have HAT := Lib.hid h6
      have hel : el ≤ 70 := by omega
      have HXC : Hid (0 < dl → ∃ g c0, Value.slice p1 dl q1 = .slice (some ⟨g, 0, none⟩) dl c0 ∧ g < w8.heap.size ∧ ∀ j x, D[j]? = some x → w8.cell? ⟨g, j, none⟩ = some (.int .i64 x)) := Lib.hid (fun h9 => by
        obtain ⟨g, c, e1, e2, e3⟩ := X8.out.cells (by rw [← HDL.out]; exact h9)
        rw [← HDL.out] at e1
        exact ⟨g, c, e1, e2, e3⟩)
      obtain ⟨gx, cx, hyv, hyg, hyc⟩ := Y8.out.cells (by rw [← HEL.out]; omega)
      rw [← HEL.out] at hyv
      obtain rfl : p2 = some ⟨gx, 0, none⟩ := by injection hyv
      have HYC := Lib.hid (And.intro hyg hyc)
      have HX0 := Lib.hid (hyc 0 _ h5)
      clear h2 h5 h6 hyv hyg hyc HALL HW1 HW2 HW3
      go_wp2
      go_loopw [11] (fun i wr => ∃ k : Nat, k ≤ dl ∧ i = .int .i64 k ∧ Below w8.heap.size w8 wr) (fun i _ => dl - (intOf i).toNat)
      case atStart => exact ⟨0, Nat.zero_le _, rfl, Below.refl _ _⟩
      case round =>
        obtain ⟨k, hk, rfl, hB⟩ := hrel
        have HB := Lib.hid hB
        by_cases hlt : k < dl
        · obtain ⟨g2, c5, hv2, hg2, hcs2⟩ := HXC.out (by omega)
          obtain rfl : p1 = some ⟨g2, 0, none⟩ := by injection hv2
          obtain ⟨d, hdl, hD, hE⟩ := HAT.out k hlt
          obtain ⟨d1, hd1⟩ : ∃ d1, d1 = d + 1 := ⟨_, rfl⟩
          rw [← hd1] at hE
          have e1 := (hB.cell (p := ⟨g2, k, none⟩) hg2).trans (hcs2 k _ hD)
          have e2 := (hB.cell (p := ⟨gx, k + 1, none⟩) HYC.out.1).trans (HYC.out.2 (k + 1) _ hE)
          have t1 : ((d1 : Int) != (d : Int) + 1) = false := by simp; omega
          have hee := HE.out
          have t2 : decide ((el : Int) ≤ (k : Int) + 1) = false := by simp; omega
          have t3 : decide (el ≤ k + 1) = false := by simp; omega
          have t4 : (k : Int) + 1 < (el : Int) := by omega
          have t5 : k + 1 < el := by omega
          clear hB hv2 hg2 hcs2 hD hE hee hd1
          go_wp2
          go_quiet (fail)
          go_wp2
          go_roundw
          case rel => exact ⟨k + 1, by omega, by go_num, below_drewN HB.out _⟩
          case measure => simp [intOf]; omega
        · obtain rfl : k = dl := by omega
          have B9 := Lib.hid (B8.out.trans (hB.mono B8.out.size))
          have HS := rsame_c v8 (.slice a1 k c1) I I wr (V8.out.below hB) (by have := Q8.out.below hB; exact this)
          rw [decide_eq_true rfl] at HS
          have HS := Lib.hid HS
          have HX1 : Hid (∀ W, Below wr.heap.size wr W → W.cell? ⟨gx, 0, none⟩ = some (.int .i64 0)) := Lib.hid (fun W hW => ((hB.trans (hW.mono hB.size)).cell (p := ⟨gx, 0, none⟩) HYC.out.1).trans HX0.out)
          clear hB
          go_wp2_with fail
          refine HS.out.mono ?_
          rintro e w9 ⟨rfl, hb9⟩
          have e3 := HX1.out w9 hb9
          have B10 := Lib.hid (B9.out.trans (hb9.mono B9.out.size))
          have hel0 : 0 < el := by have := HE.out; omega
          clear hb9
          go_wp2_with fail
          go_ret
          exact ⟨rfl, B10.out⟩
    · obtain rfl : z = 61 := by omega
      clear hz2 hz0
      go_wp2_with fail
      go_ret
      exact ⟨rfl, B8.out⟩
  · have hy1 : ((y : Int) != 0) = true := by simp; omega
    have h2 := HW2.out hy0
    by_cases hz0 : z = 0
    · obtain rfl : y = 60 := by
        rcases h2 with e | e
        · exact e
        · exact absurd hz0 (HW1.out e)
      subst hz0
      clear h2 hy0
      go_wp2_with fail
      go_ret
      exact ⟨rfl, B8.out⟩
    · have hz1 : ((z : Int) != 0) = true := by simp; omega
      clear h2 hy0 hz0
      go_wp2_with fail
      go_ret
      exact ⟨rfl, B8.out⟩
end Go.Proofs.YthbiflmmlcmncaaDoor.Ti
