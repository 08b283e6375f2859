/- The statement GroupWhole, as a call (by wip/gen/gr_whl.py). -/
import Derived.Test.YthbiflmmlcmncaaDoorGrJns
import Derived.Test.YthbiflmmlcmncaaDoorGrBnd
namespace Go.Proofs.YthbiflmmlcmncaaDoor.Ti
open Go Go.RowKit Go.Shelf
attribute [local go_sem] Oper.semAt_some

set_option maxRecDepth 100000 in
set_option maxHeartbeats 8000000 in
theorem whole_no (w : World) (hG : EG w) (v : Value) (L : List Tk) (h : TL w v L) (x : ByteArray) (h0 : ¬ errA (fewL L) = 0) :
    Calls Tryd.prog 6 #[v, .string x] w fun e W' => e = .returned (.bool true) ∧ Below w.heap.size w W' := by
  obtain ⟨F, hF⟩ : ∃ F, F = fewL L := ⟨_, rfl⟩
  have hfl : F.length ≤ 60 := by rw [hF]; exact fewL_len L
  have hfo : ∀ t ∈ F, t.text.length ≤ 10000 ∧ t.glyph.length ≤ 10000 := by rw [hF]; exact fewL_ok L
  have hf1 := few_own w v L h
  rw [← hF] at hf1 h0
  have hx : bs x.data.toList = x := bs_of x
  have hA : splitA F x.data.toList = [] := by unfold splitA; rw [if_neg h0]
  obtain ⟨z, hz⟩ : ∃ z : Nat, z = errA F := ⟨_, rfl⟩
  have HS1 : Hid (∀ W u, Below w.heap.size w W → TL W u F → Calls Tryd.prog 19 #[u, .string x] W fun e W' => ∃ a c, e = .returned (.tuple #[.slice a 0 c, .int .i64 (z : Int)]) ∧ Below W.heap.size W W') := Lib.hid (fun W u hb ht => by
    have := gsplit_c W (hG.step hb) u F x.data.toList ht (by omega) hfo
    rw [hx, hA, ← hz] at this
    refine this.mono ?_
    rintro e W' ⟨v', VS, h1, h2, h3, h4⟩
    have hl := h3.len
    obtain ⟨a, c, rfl⟩ := own_form h2
    rw [hl] at h1
    exact ⟨a, c, h1, h4⟩)
  have HSH := Lib.hid (shown_c w hG)
  have HF1 := Lib.hid hf1
  obtain ⟨a9, c9, rfl, _, _⟩ := h.form
  have hne : ((z : Int) != 0) = true := by simp; omega
  clear h hf1 hF hG hfo hx hA h0 hz
  go_enter Tryd.func6, Tryd.ntmps6
  go_wp2_with fail
  refine HSH.out.mono ?_
  rintro e w1 ⟨rfl, hb1⟩
  have B1 := Lib.hid hb1
  clear hb1
  go_wp2_with fail
  refine (HF1.out _ B1.out).mono ?_
  rintro e w2 ⟨a1, c1, rfl, ht2, _, hb2⟩
  have V2 := Lib.hid ht2
  have B2 := Lib.hid (B1.out.trans (hb2.mono B1.out.size))
  clear ht2 hb2
  go_wp2_with fail
  refine (HS1.out _ _ B2.out V2.out).mono ?_
  rintro e w3 ⟨a2, c2, rfl, hb3⟩
  have B3 := Lib.hid (B2.out.trans (hb3.mono B2.out.size))
  clear hb3
  go_wp2_with fail
  go_ret
  exact ⟨rfl, B3.out⟩

/-- Where the first i parts end. -/
def endB (B : List (Nat × Nat)) : Nat → Nat
  | 0 => 0
  | j + 1 => match B[j]? with
    | some p => p.2
    | none => 0
theorem endB_start {B : List (Nat × Nat)} {i : Nat} (h0 : 0 < i) (h : i ≤ B.length) : startB B i = endB B i + 1 := by
  cases i with
  | zero => omega
  | succ j =>
    obtain ⟨p, hp⟩ : ∃ p, B[j]? = some p := ⟨_, List.getElem?_eq_getElem (by omega)⟩
    show (match B[j]? with | some p => p.2 + 1 | none => 0) = (match B[j]? with | some p => p.2 | none => 0) + 1
    rw [hp]
theorem endB_succ {B : List (Nat × Nat)} {i a b : Nat} (h : B[i]? = some (a, b)) : endB B (i + 1) = b := by
  show (match B[i]? with | some p => p.2 | none => 0) = b
  rw [h]

set_option maxRecDepth 100000 in
set_option maxHeartbeats 16000000 in
theorem whole_ok (w : World) (hG : EG w) (v : Value) (L : List Tk) (h : TL w v L) (x : ByteArray) (h0 : errA (fewL L) = 0) :
    Calls Tryd.prog 6 #[v, .string x] w fun e W' => e = .returned (.bool true) ∧ Below w.heap.size w W' := by
  obtain ⟨F, hF⟩ : ∃ F, F = fewL L := ⟨_, rfl⟩
  have hfl : F.length ≤ 60 := by rw [hF]; exact fewL_len L
  have hfo : ∀ t ∈ F, t.text.length ≤ 10000 ∧ t.glyph.length ≤ 10000 := by rw [hF]; exact fewL_ok L
  have hf1 := few_own w v L h
  rw [← hF] at hf1 h0
  have hx : bs x.data.toList = x := bs_of x
  obtain ⟨g1, g2, g3, g4⟩ := full_facts x.data.toList h0
  obtain ⟨B, hBB⟩ : ∃ B, B = fullB F x.data.toList := ⟨_, rfl⟩
  rw [← hBB] at g1 g2 g3 g4
  have hpl : B.length ≤ 61 := by
    have := splitA_len F x.data.toList
    rw [g1, List.length_map] at this
    omega
  obtain ⟨q, hq⟩ : ∃ q, q = B.length := ⟨_, rfl⟩
  have hpa : ∀ (i a b : Nat), B[i]? = some (a, b) → errA (cutL F a b) = 0 ∧ splitA (cutL F a b) x.data.toList = [cutL F a b] := fun i a b hi => part_alone h0 (g2 i a b hi).2.1 (g2 i a b hi).2.2
  have HS1 : Hid (∀ W u, Below w.heap.size w W → TL W u F → Calls Tryd.prog 19 #[u, .string x] W fun e W' => ∃ g c, e = .returned (.tuple #[.slice (some ⟨g, 0, none⟩) q c, .int .i64 0]) ∧ Below W.heap.size W W' ∧ g < W'.heap.size ∧
      ∀ i a b, B[i]? = some (a, b) → ∃ ad c, W'.cell? ⟨g, i, none⟩ = some (.slice (some ad) (b - a) c) ∧ TL W' (.slice (some ad) (b - a) c) (cutL F a b)) := Lib.hid (fun W u hb ht => by
    have := gsplit_m W (hG.step hb) u F x.data.toList ht (by omega) hfo
    rw [hx, g1, h0] at this
    refine this.mono ?_
    rintro e W' ⟨v', VS, h1, h2, h3, h4, h5⟩
    have hl := h3.len
    rw [List.length_map, ← hq] at hl
    have h2' := h2
    rcases h2.2 with ⟨hv, hz⟩ | ⟨gg, cap, cur, hv, hg, hh, e1, e2, e3, e4⟩
    · omega
    · subst hv
      rw [hl] at h1
      refine ⟨gg, cap, h1, h4, (Array.getElem?_eq_some_iff.1 hh).1, fun i a b hi => ?_⟩
      have hiq : i < VS.length := by rw [hl, hq]; exact (List.getElem?_eq_some_iff.1 hi).1
      obtain ⟨y, hy⟩ : ∃ y, VS[i]? = some y := ⟨_, List.getElem?_eq_getElem hiq⟩
      have hT := h3.at_ i y (cutL F a b) hy (by rw [List.getElem?_map, hi]; rfl)
      obtain ⟨ad, l, c, rfl⟩ := h5 y (List.mem_of_getElem? hy)
      obtain ⟨a0, c0, e5, _, _⟩ := hT.form
      have hlen := cutL_len F (g2 i a b hi).2.2.le (g2 i a b hi).2.1
      rw [hlen] at e5
      injection e5 with e6 e7 e8
      subst e7
      refine ⟨ad, c, ?_, hT⟩
      rw [World.ownsRow.cellAt h2' i (by omega)]
      exact hy)
  have HS2 : Hid (∀ W u i a b, Below w.heap.size w W → B[i]? = some (a, b) → TL W u (cutL F a b) → Calls Tryd.prog 19 #[u, .string x] W fun e W' => ∃ a0 c, e = .returned (.tuple #[.slice a0 1 c, .int .i64 0]) ∧ Below W.heap.size W W') := Lib.hid (fun W u i a b hb hi ht => by
    obtain ⟨p1, p2⟩ := hpa i a b hi
    have hlen := cutL_len F (g2 i a b hi).2.2.le (g2 i a b hi).2.1
    have := gsplit_c W (hG.step hb) u (cutL F a b) x.data.toList ht (by rw [hlen]; have := (g2 i a b hi).2.1; omega) (fun t h9 => hfo t (cutL_mem h9))
    rw [hx, p1, p2] at this
    refine this.mono ?_
    rintro e W' ⟨v', VS, h1, h2, h3, h4⟩
    have hl := h3.len
    obtain ⟨a0, c, rfl⟩ := own_form h2
    rw [hl] at h1
    exact ⟨a0, c, h1, h4⟩)
  have HGD := Lib.hid (fun i a b (hi : B[i]? = some (a, b)) => And.intro (g2 i a b hi).1 (And.intro (g2 i a b hi).2.1 (g2 i a b hi).2.2.le))
  have HEND := Lib.hid g3
  have HSH := Lib.hid (shown_c w hG)
  have HF1 := Lib.hid hf1
  have HQ := Lib.hid hq
  have hq0 : 0 < q := by omega
  have hq1 : q ≤ 61 := by omega
  obtain ⟨a9, c9, rfl, _, _⟩ := h.form
  obtain ⟨n, hn⟩ : ∃ n, n = F.length := ⟨_, rfl⟩
  rw [← hn] at HF1 HGD HEND hfl
  have HLN := Lib.hid (And.intro hn hfl)
  clear h hf1 hF hG hfo hx h0 g1 g2 g3 g4 hBB hpl hq hpa hn
  go_enter Tryd.func6, Tryd.ntmps6
  go_wp2_with fail
  refine HSH.out.mono ?_
  rintro e w1 ⟨rfl, hb1⟩
  have B1 := Lib.hid hb1
  clear hb1
  go_wp2_with fail
  refine (HF1.out _ B1.out).mono ?_
  rintro e w2 ⟨a1, c1, rfl, ht2, _, hb2⟩
  have V2 := Lib.hid ht2
  have B2 := Lib.hid (B1.out.trans (hb2.mono B1.out.size))
  clear ht2 hb2
  go_wp2_with fail
  refine (HS1.out _ _ B2.out V2.out).mono ?_
  rintro e w3 ⟨gs, cs, rfl, hb3, hgs, hpt⟩
  have V3 := Lib.hid (V2.out.below hb3)
  have B3 := Lib.hid (B2.out.trans (hb3.mono B2.out.size))
  have HPT := Lib.hid hpt
  have hn1 : (Value.slice a1 n c1).oneCell' = true := rfl
  obtain ⟨_, _, -, hcn, hcm⟩ := V3.out.form
  rw [← HLN.out.1] at hcn
  clear hb3 hpt hn1 HS1 HF1 HSH V2 B1 B2 hcn hcm
  go_wp2
  go_loopw [8, 9, 10] (fun all nn i wr => ∃ k : Nat, k ≤ q ∧ i = .int .i64 k ∧ ∃ m : Nat, nn = .int .i64 m ∧ m = endB B k ∧ OwnL wr w3.heap.size all (F.take m) ∧ Below w3.heap.size w3 wr) (fun _ _ i _ => q - (intOf i).toNat)
  case atStart => exact ⟨0, Nat.zero_le _, rfl, 0, rfl, rfl, World.ownsRow_nil _ _ _ _, Below.refl _ _⟩
  case round =>
    obtain ⟨k, hk, rfl, m, rfl, hm, hown, hB⟩ := hrel
    have HB := Lib.hid hB
    have HOW := Lib.hid hown
    by_cases hlt : k < q
    · obtain ⟨⟨a, b⟩, hi⟩ : ∃ p, B[k]? = some p := ⟨_, List.getElem?_eq_getElem (by rw [← HQ.out]; exact hlt)⟩
      obtain ⟨d1, d2, d3⟩ := HGD.out k a b hi
      obtain ⟨ad, c, hcx, hct⟩ := HPT.out k a b hi
      obtain ⟨ln, hln⟩ : ∃ ln, ln = b - a := ⟨_, rfl⟩
      rw [← hln] at hcx hct
      have HLL : Hid (a + ln = b ∧ ln ≤ 60) := Lib.hid (by have := HLN.out.2; omega)
      have HCX : Hid (∀ W, Below w3.heap.size w3 W → W.cell? ⟨gs, k, none⟩ = some (.slice (some ad) ln c)) := Lib.hid (fun W hW => (hW.cell (p := ⟨gs, k, none⟩) hgs).trans hcx)
      have HTX : Hid (∀ W, Below w3.heap.size w3 W → TL W (.slice (some ad) ln c) (cutL F a b)) := Lib.hid (fun W hW => hct.below hW)
      have HE1 : Hid (b = endB B (k + 1)) := Lib.hid (endB_succ hi).symm
      have HAB := Lib.hid (And.intro d3 d2)
      have HSP := Lib.hid (HS2.out wr (.slice (some ad) ln c) k a b (B3.out.trans (hB.mono B3.out.size)) hi (hct.below hB))
      have HCU := Lib.hid (cutL_len F (a := a) (b := b) d3 (by rw [← HLN.out.1]; exact d2))
      have e0 := HCX.out wr hB
      have hl60 : ln ≤ 60 := HLL.out.2
      have hb60 : b ≤ 60 := by have := HLN.out.2; omega
      by_cases hk0 : k = 0
      · subst hk0
        have ha : a = 0 := d1
        have hm0 : m = 0 := hm
        subst ha hm0
        clear hB hcx hct hi d1 d2 d3 hm hown hln
        go_wp2_with fail
        refine HSP.out.mono ?_
        rintro e w5 ⟨t0, t1, rfl, hb5⟩
        have HBX := Lib.hid (HB.out.trans (hb5.mono HB.out.size))
        have HO : Hid (OwnL w5 w3.heap.size u8 (F.take 0)) := Lib.hid (own_kept HOW.out hb5)
        have e5 := HCX.out w5 HBX.out
        have HP := Lib.hid (TL.ap (HTX.out w5 HBX.out))
        have HS : Hid (w3.heap.size ≤ w5.heap.size) := Lib.hid HBX.out.size
        clear hb5 e0
        go_wp2_with (at_builtin; refine append_two rfl (.tmp 64) (.tmp 68) rfl w3.heap.size u8 (.slice (some ad) ln c) (F.take 0) (cutL F 0 b) rfl rfl HO.out HP.out (by have := HLN.out; have := HCU.out; have := HLL.out; rw [List.length_take]; omega) HS.out ?_)
        intro v9 w9 ho9 hb9
        have HO9 : Hid (OwnL w9 w3.heap.size v9 (F.take b)) := Lib.hid (by rw [← take_cut F HAB.out.1]; exact ho9)
        have HB9 := Lib.hid (HBX.out.trans hb9)
        have e9 := HCX.out w9 HB9.out
        clear ho9 hb9 e5
        go_wp2
        go_roundw
        case rel => exact ⟨1, by omega, by go_num, b, by have := HLL.out; go_num, HE1.out, HO9.out, HB9.out⟩
        case measure => simp [intOf]; omega
      · have hma : a = m + 1 := by rw [d1, hm]; exact endB_start (by omega) (by rw [← HQ.out]; omega)
        have hmn : m < n := by omega
        obtain ⟨t, ht⟩ : ∃ t, F[m]? = some t := ⟨_, List.getElem?_eq_getElem (by rw [← HLN.out.1]; exact hmn)⟩
        have HTK : Hid (F.take m ++ [t] = F.take (m + 1)) := Lib.hid (by rw [List.take_add_one, ht]; rfl)
        obtain ⟨gl, o, cl, hlv, hgl, hlc⟩ := V3.out.cells (by rw [← HLN.out.1]; omega)
        rw [← HLN.out.1] at hlv
        obtain rfl : a1 = some ⟨gl, o, none⟩ := by injection hlv
        obtain ⟨x0, x1, x2⟩ := hlc m t ht
        have HLX : Hid (∀ W, Below w3.heap.size w3 W → W.cell? ⟨gl, o + m * 3, none⟩ = some (.int .i64 t.kind) ∧ W.cell? ⟨gl, o + m * 3 + 1, none⟩ = some (.string (bs t.text)) ∧ W.cell? ⟨gl, o + m * 3 + 2, none⟩ = some (.string (bs t.glyph))) := Lib.hid (fun W hb =>
          ⟨(hb.cell (p := ⟨gl, o + m * 3, none⟩) hgl).trans x0, (hb.cell (p := ⟨gl, o + m * 3 + 1, none⟩) hgl).trans x1, (hb.cell (p := ⟨gl, o + m * 3 + 2, none⟩) hgl).trans x2⟩)
        have HA1 := Lib.hid (fun W => Ap.one W t)
        obtain ⟨kd, hkd⟩ : ∃ kd : Int, kd = t.kind := ⟨_, rfl⟩
        obtain ⟨U, hU⟩ : ∃ U, U = bs t.text := ⟨_, rfl⟩
        obtain ⟨G, hGl⟩ : ∃ G, G = bs t.glyph := ⟨_, rfl⟩
        unfold tokL at HA1
        rw [← hkd, ← hU, ← hGl] at HLX HA1
        subst hma
        have hk1 : decide ((0 : Int) < (k : Int)) = true := by simp; omega
        have hk2 : (0 : Int) < (k : Int) := by omega
        have hk3 : 0 < k := by omega
        have hk4 : decide ((n : Int) ≤ (m : Int)) = false := by simp; omega
        have hk5 : ¬ (n : Int) ≤ (m : Int) := by omega
        have hk6 : (m : Int) < (n : Int) := by omega
        clear hB hcx hct hi d1 d2 d3 hm hown hln x0 x1 x2 hlc hlv hgl ht hkd hU hGl
        go_wp2_with fail
        refine HSP.out.mono ?_
        rintro e w5 ⟨t0, t1, rfl, hb5⟩
        have HB5 := Lib.hid (HB.out.trans (hb5.mono HB.out.size))
        have hal : Below w3.heap.size w5 (w5.alloc (.cells #[.int .i64 kd, .string U, .string G] 31)) := (Below.refl _ _).alloc HB5.out.size _
        have HO : Hid (OwnL (w5.alloc (.cells #[.int .i64 kd, .string U, .string G] 31)) w3.heap.size u8 (F.take m)) := Lib.hid ((own_kept HOW.out hb5).alloc _)
        have HBA := Lib.hid (HB5.out.trans hal)
        obtain ⟨y0, y1, y2⟩ := HLX.out w5 HB5.out
        have HP := Lib.hid (HA1.out w5)
        have HS : Hid (w3.heap.size ≤ (w5.alloc (.cells #[.int .i64 kd, .string U, .string G] 31)).heap.size) := Lib.hid (HB5.out.trans hal).size
        clear hb5 e0 hal
        go_wp2_with (at_builtin; refine append_two rfl (.tmp 55) (.tmp 60) rfl w3.heap.size u8 (.slice (some ⟨w5.heap.size, 0, none⟩) 1 1) (F.take m) [t] rfl rfl HO.out HP.out (by have := HLN.out; rw [List.length_take]; simp; omega) HS.out ?_)
        intro v7 w7 ho7 hb7
        have HO7 : Hid (OwnL w7 w3.heap.size v7 (F.take (m + 1))) := Lib.hid (by rw [← HTK.out]; exact ho7)
        have HB7 := Lib.hid (HBA.out.trans hb7)
        have e7 := HCX.out w7 HB7.out
        have HP7 := Lib.hid (TL.ap (HTX.out w7 HB7.out))
        have HS7 : Hid (w3.heap.size ≤ w7.heap.size) := Lib.hid HB7.out.size
        clear ho7 hb7 y0 y1 y2
        go_wp2_with (at_builtin; refine append_two rfl (.tmp 64) (.tmp 68) rfl w3.heap.size v7 (.slice (some ad) ln c) (F.take (m + 1)) (cutL F (m + 1) b) rfl rfl HO7.out HP7.out (by have := HLN.out; have := HCU.out; have := HLL.out; rw [List.length_take]; omega) HS7.out ?_)
        intro v9 w9 ho9 hb9
        have HO9 : Hid (OwnL w9 w3.heap.size v9 (F.take b)) := Lib.hid (by rw [← take_cut F HAB.out.1]; exact ho9)
        have HB9 := Lib.hid (HB7.out.trans hb9)
        have e9 := HCX.out w9 HB9.out
        clear ho9 hb9 e7
        have hadd : (m : Int) + 1 + (ln : Int) = (b : Int) := by have := HLL.out; omega
        go_wp2
        go_roundw
        case rel => exact ⟨k + 1, by omega, by go_num, b, by have := HLL.out; go_num, HE1.out, HO9.out, HB9.out⟩
        case measure => simp [intOf]; omega
    · obtain rfl : k = q := by omega
      have hmn : m = n := by
        have h1 := HEND.out
        rw [← HQ.out, endB_start (by omega) (by rw [← HQ.out]; exact Nat.le_refl _)] at h1
        omega
      subst hmn
      have V9 : Hid (TL wr u8 F) := Lib.hid (by
        have := HOW.out
        rw [HLN.out.1, List.take_length] at this
        exact OwnL.tl (by have := HLN.out; unfold maxLen; omega) this)
      have U9 := Lib.hid (V3.out.below hB)
      have B9 := Lib.hid (B3.out.trans (hB.mono B3.out.size))
      have HSA := rsame_c u8 (.slice a1 m c1) F F wr V9.out U9.out
      rw [decide_eq_true rfl] at HSA
      have HSA := Lib.hid HSA
      clear hB hown hm
      go_wp2_with fail
      refine HSA.out.mono ?_
      rintro e w5 ⟨rfl, hb5⟩
      have B10 := Lib.hid (B9.out.trans (hb5.mono B9.out.size))
      clear hb5
      go_wp2_with fail
      go_ret
      exact ⟨rfl, B10.out⟩
theorem whole_true (w : World) (hG : EG w) (v : Value) (L : List Tk) (h : TL w v L) (x : ByteArray) :
    Calls Tryd.prog 6 #[v, .string x] w fun e W' => e = .returned (.bool true) ∧ Below w.heap.size w W' := by
  by_cases h0 : errA (fewL L) = 0
  · exact whole_ok w hG v L h x h0
  · exact whole_no w hG v L h x h0
end Go.Proofs.YthbiflmmlcmncaaDoor.Ti
