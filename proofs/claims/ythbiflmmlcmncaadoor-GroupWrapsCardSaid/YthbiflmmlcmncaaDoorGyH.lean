/- What the laws of stage 6 share: two lists of numbers, two lists of lists. What the laws of stage 6 share: are partners known. -/
import Derived.Test.YthbiflmmlcmncaaDoorGyA
import Derived.Test.YthbiflmmlcmncaaDoorGrSame
import Derived.Deep.RegionHeldLaw
import Derived.Test.YthbiflmmlcmncaaDoorGrSpl
import Derived.Test.YthbiflmmlcmncaaDoorGrDee
import Derived.Test.YthbiflmmlcmncaaDoorGyI
/- What the laws of stage 6 share: two lists of numbers, two lists of lists. -/
namespace Go.Proofs.YthbiflmmlcmncaaDoor.Ti
open Go Go.RowKit Go.Shelf
attribute [local go_sem] Oper.semAt_some

/-- Numbers in memory. -/
structure IL (W : World) (v : Value) (A : List Int) : Prop where
  form : ∃ a0 c0, v = .slice a0 A.length c0 ∧ A.length ≤ c0 ∧ c0 ≤ maxLen
  cells : 0 < A.length → ∃ g c0, v = .slice (some ⟨g, 0, none⟩) A.length c0 ∧ g < W.heap.size ∧ ∀ j x, A[j]? = some x → W.cell? ⟨g, j, none⟩ = some (.int .i64 x)
theorem IL.below {W W' : World} {v : Value} {A : List Int} (h : IL W v A) (hb : Below W.heap.size W W') : IL W' v A := by
  refine ⟨h.form, fun h0 => ?_⟩
  obtain ⟨g, c0, hv, hg, hc⟩ := h.cells h0
  exact ⟨g, c0, hv, Nat.lt_of_lt_of_le hg hb.size, fun j x hj => (hb.cell (p := ⟨g, j, none⟩) hg).trans (hc j x hj)⟩
theorem IOwn.il {W : World} {base : Nat} {v : Value} {L : List Int} (h : IOwn W base v L) : IL W v L := by
  have h' := h
  rcases h.2 with ⟨hv, h0⟩ | ⟨g, cap, cur, hv, hg, hh, h1, h2, h3, h4⟩
  · refine ⟨⟨none, 0, by rw [hv, h0], by rw [h0]; exact Nat.le_refl _, Nat.zero_le _⟩, fun h => by omega⟩
  · subst hv
    refine ⟨⟨_, cap, rfl, h1, h2⟩, fun _ => ⟨g, cap, rfl, (Array.getElem?_eq_some_iff.1 hh).1, fun j x hj => ?_⟩⟩
    have hjl : j < L.length := (List.getElem?_eq_some_iff.1 hj).1
    rw [World.ownsRow.cellAt h' j (by omega)]
    exact nums_at hj
/-- A row of numbers that was just built. -/
theorem IL.row {W : World} {g : Nat} {A : List Int} {cs : Array Value} (h : Row W g 3 cs) (hc : cs = (nums A).toArray) (hl : A.length ≤ 1000) : IL W (.slice (some ⟨g, 0, none⟩) A.length A.length) A := by
  subst hc
  refine ⟨⟨_, _, rfl, Nat.le_refl _, by unfold maxLen; omega⟩, fun _ => ⟨g, _, rfl, h.lt, fun j x hj => ?_⟩⟩
  rw [h.cell j]
  simpa using nums_at hj

set_option maxHeartbeats 2000000 in
set_option maxRecDepth 100000 in
/-- Ints(a, b), of one list twice. -/
theorem rints_same (v u : Value) (A : List Int) (w : World) (hA : IL w v A) (hB : IL w u A) (hl : A.length ≤ 1000) :
    Calls Tryd.prog 18 #[v, u] w fun e W' => e = .returned (.bool true) ∧ Below w.heap.size w W' := by
  obtain ⟨a0, c0, rfl, hc1, hc2⟩ := hA.form
  obtain ⟨b0, d0, rfl, hd1, hd2⟩ := hB.form
  unfold maxLen at hc2 hd2
  have HCA := Lib.hid hA.cells
  have HCB := Lib.hid hB.cells
  obtain ⟨n, hn⟩ : ∃ n, n = A.length := ⟨_, rfl⟩
  rw [← hn] at hc1 hd1 hl HCA HCB ⊢
  have HN := Lib.hid hn
  have HD := Lib.hid (Below.refl w.heap.size w)
  clear hA hB hn
  go_enter Tryd.func18, Tryd.ntmps18
  go_wp2
  go_loopw [5] (fun i wr => ∃ k : Nat, k ≤ n ∧ i = .int .i64 k ∧ Below w.heap.size w wr) (fun i _ => n - (intOf i).toNat)
  case atStart => exact ⟨0, Nat.zero_le _, rfl, HD.out⟩
  case round =>
    obtain ⟨k, hk, rfl, hB⟩ := hrel
    have HB := Lib.hid hB
    by_cases hlt : k < n
    · obtain ⟨g, c1, hv, hg, hcs⟩ := HCA.out (by omega)
      obtain ⟨g2, c2, hv2, hg2, hcs2⟩ := HCB.out (by omega)
      obtain rfl : a0 = some ⟨g, 0, none⟩ := by injection hv
      obtain rfl : b0 = some ⟨g2, 0, none⟩ := by injection hv2
      obtain ⟨x, hx⟩ : ∃ x, A[k]? = some x := ⟨_, List.getElem?_eq_getElem (by rw [← HN.out]; exact hlt)⟩
      have e1 := (hB.cell (p := ⟨g, k, none⟩) hg).trans (hcs k x hx)
      have e2 := (hB.cell (p := ⟨g2, k, none⟩) hg2).trans (hcs2 k x hx)
      have HND := Lib.hid hB.drew
      clear hB hcs hcs2 hv hv2 hg hg2 hx
      go_wp2_with fail
      go_region_held (fun w' => w'.cell? ⟨g, k, none⟩ = some (.int .i64 x) ∧ w'.cell? ⟨g2, k, none⟩ = some (.int .i64 x)) (go_keep) (fail)
      all_goals
        clear e1 e2 HB
        go_wp2
        go_roundw
        case rel => exact ⟨k + 1, by omega, by go_num, HND.out⟩
        case measure => simp [intOf]; omega
    · obtain rfl : k = n := by omega
      clear hB
      go_wp2
      go_ret
      exact ⟨rfl, HB.out⟩

/-- Lists in a list, in memory. -/
structure PL (W : World) (v : Value) (PS : List (List Tk)) : Prop where
  ex : ∃ (base : Nat) (VS : List Value), VS.length = PS.length ∧ W.ownsRow base 22 1 v VS.length VS ∧ PartsAt W VS PS
theorem PL.below {W W' : World} {v : Value} {PS : List (List Tk)} (h : PL W v PS) (hb : Below W.heap.size W W') : PL W' v PS := by
  obtain ⟨base, VS, h1, h2, h3⟩ := h.ex
  exact ⟨base, VS, h1, own_kept h2 hb, h3.below hb⟩
theorem PL.form {W : World} {v : Value} {PS : List (List Tk)} (h : PL W v PS) : ∃ a0 c0, v = .slice a0 PS.length c0 ∧ PS.length ≤ c0 ∧ c0 ≤ maxLen := by
  obtain ⟨base, VS, h1, h2, h3⟩ := h.ex
  rcases h2.2 with ⟨hv, h0⟩ | ⟨g, cap, cur, hv, hg, hh, e1, e2, e3, e4⟩
  · exact ⟨none, 0, by rw [hv, ← h1, h0], by omega, Nat.zero_le _⟩
  · exact ⟨_, cap, by rw [hv, h1], by omega, e2⟩
theorem PL.at_ {W : World} {v : Value} {PS : List (List Tk)} (h : PL W v PS) {k : Nat} {P : List Tk} (hP : PS[k]? = some P) : ∃ g c0 x, v = .slice (some ⟨g, 0, none⟩) PS.length c0 ∧ g < W.heap.size ∧ W.cell? ⟨g, k, none⟩ = some x ∧ TL W x P := by
  obtain ⟨base, VS, h1, h2, h3⟩ := h.ex
  have hk : k < PS.length := (List.getElem?_eq_some_iff.1 hP).1
  have h2' := h2
  rcases h2.2 with ⟨hv, h0⟩ | ⟨g, cap, cur, hv, hg, hh, e1, e2, e3, e4⟩
  · omega
  · subst hv
    obtain ⟨x, hx⟩ : ∃ x, VS[k]? = some x := ⟨_, List.getElem?_eq_getElem (by omega)⟩
    refine ⟨g, cap, x, by rw [h1], (Array.getElem?_eq_some_iff.1 hh).1, ?_, h3.at_ k x P hx hP⟩
    rw [World.ownsRow.cellAt h2' k (by omega)]
    exact hx

set_option maxHeartbeats 4000000 in
set_option maxRecDepth 100000 in
/-- parts(a, b), of the same lists. -/
theorem parts_c (v u : Value) (PS : List (List Tk)) (w : World) (hA : PL w v PS) (hB : PL w u PS) (hl : PS.length ≤ 1000) :
    Calls Tryd.prog 23 #[v, u] w fun e W' => e = .returned (.bool true) ∧ Below w.heap.size w W' := by
  have HAA := Lib.hid hA
  have HBB := Lib.hid hB
  obtain ⟨a0, c0, rfl, hc1, hc2⟩ := hA.form
  obtain ⟨b0, d0, rfl, hd1, hd2⟩ := hB.form
  unfold maxLen at hc2 hd2
  obtain ⟨n, hn⟩ : ∃ n, n = PS.length := ⟨_, rfl⟩
  rw [← hn] at hc1 hd1 hl HAA HBB ⊢
  have HN := Lib.hid hn
  have HD := Lib.hid (Below.refl w.heap.size w)
  clear hA hB hn
  go_enter Tryd.func23, Tryd.ntmps23
  go_wp2
  go_loopw [5] (fun i wr => ∃ k : Nat, k ≤ n ∧ i = .int .i64 k ∧ Below w.heap.size w wr) (fun i _ => n - (intOf i).toNat)
  case atStart => exact ⟨0, Nat.zero_le _, rfl, HD.out⟩
  case round =>
    obtain ⟨k, hk, rfl, hB⟩ := hrel
    have HB := Lib.hid hB
    by_cases hlt : k < n
    · obtain ⟨P, hP⟩ : ∃ P, PS[k]? = some P := ⟨_, List.getElem?_eq_getElem (by rw [← HN.out]; exact hlt)⟩
      obtain ⟨g, c1, x, hv, hg, hx, hxt⟩ := HAA.out.at_ hP
      obtain ⟨g2, c2, y, hv2, hg2, hy, hyt⟩ := HBB.out.at_ hP
      obtain rfl : a0 = some ⟨g, 0, none⟩ := by injection hv
      obtain rfl : b0 = some ⟨g2, 0, none⟩ := by injection hv2
      have e1 := (hB.cell (p := ⟨g, k, none⟩) hg).trans hx
      have e2 := (hB.cell (p := ⟨g2, k, none⟩) hg2).trans hy
      have HND := Lib.hid hB.drew
      have HSAME := Lib.hid (rsame_c x y P P wr.drew ((hxt.below hB).below ((Below.refl _ _).drew)) ((hyt.below hB).below ((Below.refl _ _).drew)))
      have HFIN : Hid (∀ W, Below wr.drew.heap.size wr.drew W → Below w.heap.size w W) := Lib.hid (fun W hW => hB.drew.trans (hW.mono hB.size))
      obtain ⟨x0, x1, rfl, _⟩ := hxt.form
      obtain ⟨y0, y1, rfl, _⟩ := hyt.form
      rw [decide_eq_true rfl] at HSAME
      have HXX : Hid (∀ W, Below wr.drew.heap.size wr.drew W → W.cell? ⟨g, k, none⟩ = some (.slice x0 P.length x1) ∧ W.cell? ⟨g2, k, none⟩ = some (.slice y0 P.length y1)) := Lib.hid (fun W hW => ⟨(hW.cell (p := ⟨g, k, none⟩) (Nat.lt_of_lt_of_le hg hB.size)).trans e1, (hW.cell (p := ⟨g2, k, none⟩) (Nat.lt_of_lt_of_le hg2 hB.size)).trans e2⟩)
      clear hB hv hv2 hg hg2 hx hy hxt hyt hP
      go_wp2_with fail
      go_region_held_law (fun w' => w'.cell? ⟨g, k, none⟩ = some (.slice x0 P.length x1) ∧ w'.cell? ⟨g2, k, none⟩ = some (.slice y0 P.length y1)) (first | exact HX7.out | exact ⟨e1, e2⟩ | go_keep)
        ((first | (go_at_call 24; refine HSAME.out.mono ?_; rintro e w7 ⟨rfl, hb7⟩; have HB7 := Lib.hid (HFIN.out w7 hb7); have HX7 := Lib.hid (HXX.out w7 hb7); clear hb7)))
      all_goals
        go_wp2
        go_roundw
        case rel => exact ⟨k + 1, by omega, by go_num, HB7.out⟩
        case measure => simp [intOf]; omega
    · obtain rfl : k = n := by omega
      clear hB
      go_wp2
      go_ret
      exact ⟨rfl, HB.out⟩
end Go.Proofs.YthbiflmmlcmncaaDoor.Ti

/- What the laws of stage 6 share: are partners known. -/
namespace Go.Proofs.YthbiflmmlcmncaaDoor.Ti
open Go Go.RowKit Go.Shelf
attribute [local go_sem] Oper.semAt_some

def exT : List UInt8 := [123, 40, 97, 41, 125, 226, 139, 132, 98]
def exL : List Tk := [⟨8, [123], [123]⟩, ⟨8, [40], [40]⟩, ⟨5, [97], []⟩, ⟨8, [41], [41]⟩, ⟨8, [125], [125]⟩, ⟨8, [226, 139, 132], [226, 139, 132]⟩, ⟨5, [98], []⟩]
set_option maxRecDepth 100000 in
theorem ex_toks : toks Rs.sp exT 0 = [⟨8, [123], [123]⟩, ⟨8, [40], [40]⟩, ⟨5, [97], []⟩, ⟨8, [41], [41]⟩, ⟨8, [125], [125]⟩, ⟨8, [226, 139, 132], [226, 139, 132]⟩, ⟨5, [98], []⟩] := by decide +kernel
set_option maxRecDepth 100000 in
theorem ex_ans : matchA exL = ([4, 3, -1, 1, 0, -1, -1], 0) ∧ deepA exL = [0, 1, 2, 1, 0, 0, 0] ∧ splitA exL [226, 139, 132] = [exL.take 5, exL.drop 6] ∧ (matchA (exL.take 4)).2 = 60 ∧ errA exL = 0 := by decide +kernel
theorem TL.take {W : World} {a : Option Addr} {n c : Nat} {L : List Tk} (h : TL W (.slice a n c) L) {k : Nat} (hk : k ≤ L.length) : TL W (.slice a k c) (L.take k) := by
  obtain ⟨a0, c0, e, h1, h2⟩ := h.form
  cases e
  have hl : (L.take k).length = k := by rw [List.length_take]; omega
  refine ⟨⟨a, c, by rw [hl], by omega, h2⟩, fun h0 => ?_⟩
  rw [hl] at h0
  obtain ⟨g, o, c', e, hg, hc⟩ := h.cells (by omega)
  cases e
  refine ⟨g, o, c, by rw [hl], hg, fun j t hj => hc j t ?_⟩
  rw [List.getElem?_take] at hj
  split at hj
  · exact hj
  · cases hj

set_option maxRecDepth 100000 in
set_option maxHeartbeats 4000000 in
/-- shown(). -/
theorem shown_c (w : World) (hG : EG w) :
    Calls Tryd.prog 10 #[] w fun e W' => e = .returned (.bool true) ∧ Below w.heap.size w W' := by
  obtain ⟨q1, q2, q3, q4, q5⟩ := ex_ans
  have hE4 : errA (exL.take 4) = 60 := q4
  have hsm : ∀ t ∈ exL, t.text.length ≤ 10000 ∧ t.glyph.length ≤ 10000 := by decide
  have HLN : Hid (Calls Tryd.prog 25 #[.string ⟨#[123, 40, 97, 41, 125, 226, 139, 132, 98]⟩] w fun e W' => ∃ g cap, e = .returned (.slice (some ⟨g, 0, none⟩) 7 cap) ∧ 7 ≤ cap ∧ cap ≤ 9223372036854775807 ∧ TL W' (.slice (some ⟨g, 0, none⟩) 7 cap) exL ∧ Below w.heap.size w W') := Lib.hid ((Rs.rline_c exT (by decide) w).mono fun e W' ⟨v, he, ho, hb⟩ => by
    rw [ex_toks] at ho
    have ho' : OwnL W' w.heap.size v exL := ho
    obtain ⟨g, cap, rfl, _⟩ := World.ownsRow.form ho' (by decide)
    have ht := OwnL.tl (by decide) ho'
    obtain ⟨_, c0, e, h1, h2⟩ := ht.form
    cases e
    unfold maxLen at h2
    exact ⟨g, cap, he, h1, by omega, ht, hb⟩)
  have HM : Hid (∀ W1 v, Below w.heap.size w W1 → TL W1 v exL → Calls Tryd.prog 12 #[v] W1 fun e W' => ∃ v', e = .returned (.tuple #[v', .int .i64 0]) ∧ IL W' v' [4, 3, -1, 1, 0, -1, -1] ∧ Below W1.heap.size W1 W') := Lib.hid (fun W1 v hb ht => (gmatch_c W1 (hG.step hb) v exL ht (by decide)).mono fun e W' ⟨v', h1, h2, h3⟩ => by
    rw [q1] at h1 h2
    exact ⟨v', h1, h2.il, h3⟩)
  have HN : Hid (∀ W1 v, Below w.heap.size w W1 → TL W1 v (exL.take 4) → Calls Tryd.prog 12 #[v] W1 fun e W' => ∃ v', e = .returned (.tuple #[v', .int .i64 60]) ∧ Below W1.heap.size W1 W') := Lib.hid (fun W1 v hb ht => (gmatch_c W1 (hG.step hb) v (exL.take 4) ht (by decide)).mono fun e W' ⟨v', h1, h2, h3⟩ => by
    rw [q4] at h1
    exact ⟨v', h1, h3⟩)
  have HD : Hid (∀ W1 v, Below w.heap.size w W1 → TL W1 v exL → Calls Tryd.prog 14 #[v] W1 fun e W' => ∃ v', e = .returned (.tuple #[v', .int .i64 0]) ∧ IL W' v' [0, 1, 2, 1, 0, 0, 0] ∧ Below W1.heap.size W1 W') := Lib.hid (fun W1 v hb ht => (gdeep_c W1 (hG.step hb) v exL ht (by decide)).mono fun e W' ⟨v', h1, h2, h3⟩ => by
    rw [q2] at h2
    rw [q5] at h1
    exact ⟨v', h1, h2.il, h3⟩)
  have HS : Hid (∀ W1 v, Below w.heap.size w W1 → TL W1 v exL → Calls Tryd.prog 19 #[v, .string ⟨#[226, 139, 132]⟩] W1 fun e W' => ∃ v', e = .returned (.tuple #[v', .int .i64 0]) ∧ PL W' v' [exL.take 5, exL.drop 6] ∧ Below W1.heap.size W1 W') := Lib.hid (fun W1 v hb ht => (gsplit_c W1 (hG.step hb) v exL [226, 139, 132] ht (by decide) hsm).mono fun e W' ⟨v', VS, h1, h2, h3, h4⟩ => by
    rw [q5] at h1
    rw [q3] at h3
    exact ⟨v', h1, ⟨⟨_, VS, h3.len, h2, h3⟩⟩, h4⟩)
  clear q1 q2 q3 q4 q5 hE4 hsm hG
  go_enter Tryd.func10, Tryd.ntmps10
  go_wp2_with fail
  refine HLN.out.mono ?_
  rintro e w1 ⟨g, cap, rfl, hc1, hc2, ht1, hb1⟩
  have B1 := Lib.hid hb1
  have T1 := Lib.hid ht1
  have hcn : ¬ cap = 0 := by omega
  clear hb1 ht1
  go_wp2_with fail
  refine (HM.out _ _ B1.out T1.out).mono ?_
  rintro e w2 ⟨p, rfl, hp, hb2⟩
  have B2 := Lib.hid (B1.out.trans (hb2.mono B1.out.size))
  have T2 := Lib.hid (T1.out.below hb2)
  have P2 := Lib.hid hp
  clear hb2 hp
  go_wp2_with fail
  refine (HD.out _ _ B2.out T2.out).mono ?_
  rintro e w3 ⟨d, rfl, hd, hb3⟩
  have B3 := Lib.hid (B2.out.trans (hb3.mono B2.out.size))
  have T3 := Lib.hid (T2.out.below hb3)
  have P3 := Lib.hid (P2.out.below hb3)
  have D3 := Lib.hid hd
  clear hb3 hd
  go_wp2_with fail
  refine (HS.out _ _ B3.out T3.out).mono ?_
  rintro e w4 ⟨s, rfl, hs, hb4⟩
  have B4 := Lib.hid (B3.out.trans (hb4.mono B3.out.size))
  have T4 := Lib.hid (T3.out.below hb4)
  have P4 := Lib.hid (P3.out.below hb4)
  have D4 := Lib.hid (D3.out.below hb4)
  have S4 := Lib.hid hs
  have N4 := Lib.hid (T4.out.take (k := 4) (by decide))
  clear hb4 hs
  go_wp2_with fail
  refine (HN.out _ _ B4.out N4.out).mono ?_
  rintro e w5 ⟨m, rfl, hb5⟩
  have B5 := Lib.hid (B4.out.trans (hb5.mono B4.out.size))
  have P5 := Lib.hid (P4.out.below hb5)
  have D5 := Lib.hid (D4.out.below hb5)
  have S5 := Lib.hid (S4.out.below hb5)
  clear hb5
  have ha5 : Below w5.heap.size w5 (w5.alloc (.cells #[.int .i64 4, .int .i64 3, .int .i64 (-1), .int .i64 1, .int .i64 0, .int .i64 (-1), .int .i64 (-1)] 3)) := (Below.refl _ _).alloc (Nat.le_refl _) _
  have I5 := Lib.hid (IL.row (A := [4, 3, -1, 1, 0, -1, -1]) (Row.new w5 3 #[.int .i64 4, .int .i64 3, .int .i64 (-1), .int .i64 1, .int .i64 0, .int .i64 (-1), .int .i64 (-1)]) rfl (by decide))
  have HI := Lib.hid (rints_same p _ _ _ (P5.out.below ha5) I5.out (by decide))
  have B6 := Lib.hid (B5.out.trans (ha5.mono B5.out.size))
  have D6 := Lib.hid (D5.out.below ha5)
  have S6 := Lib.hid (S5.out.below ha5)
  clear ha5
  go_wp2_with fail
  refine HI.out.mono ?_
  rintro e w7 ⟨rfl, hb7⟩
  have B7 := Lib.hid (B6.out.trans (hb7.mono B6.out.size))
  have D7 := Lib.hid (D6.out.below hb7)
  have S7 := Lib.hid (S6.out.below hb7)
  clear hb7
  have ha7 : Below w7.heap.size w7 (w7.alloc (.cells #[.int .i64 0, .int .i64 1, .int .i64 2, .int .i64 1, .int .i64 0, .int .i64 0, .int .i64 0] 3)) := (Below.refl _ _).alloc (Nat.le_refl _) _
  have I7 := Lib.hid (IL.row (A := [0, 1, 2, 1, 0, 0, 0]) (Row.new w7 3 #[.int .i64 0, .int .i64 1, .int .i64 2, .int .i64 1, .int .i64 0, .int .i64 0, .int .i64 0]) rfl (by decide))
  have HJ := Lib.hid (rints_same d _ _ _ (D7.out.below ha7) I7.out (by decide))
  have B8 := Lib.hid (B7.out.trans (ha7.mono B7.out.size))
  have S8 := Lib.hid (S7.out.below ha7)
  clear ha7
  go_wp2_with fail
  refine HJ.out.mono ?_
  rintro e w9 ⟨rfl, hb9⟩
  have B9 := Lib.hid (B8.out.trans (hb9.mono B8.out.size))
  have S9 := S8.out.below hb9
  obtain ⟨gs, cs, x, rfl, _, hx, hxt⟩ := S9.at_ (k := 0) rfl
  obtain ⟨x0, x1, rfl, _⟩ := hxt.form
  clear hb9 S9 hxt
  go_wp2_with fail
  go_ret
  exact ⟨rfl, B9.out⟩
end Go.Proofs.YthbiflmmlcmncaaDoor.Ti
