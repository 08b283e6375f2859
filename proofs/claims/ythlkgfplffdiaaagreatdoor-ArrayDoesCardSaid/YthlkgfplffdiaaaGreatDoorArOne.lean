/- Glyphs' functions of one, through an array. -/
import Derived.Test.YthlkgfplffdiaaaGreatDoorArFn
import Derived.Test.YthlkgfplffdiaaaGreatDoorArA
namespace Go.Proofs.YthlkgfplffdiaaaGreatDoor.Ar
open Go Go.RowKit Go.Shelf
attribute [local go_sem] Oper.semAt_some

theorem arys_one {W : World} {a : Ary} {s : Value} (hs : KL W s a.n) (hi : InL a.n) : ArysAt (W.alloc (.cells #[.bool a.list, .bool a.runes, s] 24)) W.heap.size 0 [a] := by
  refine ⟨by rw [World.size_alloc]; exact Nat.lt_succ_self _, fun j x hj => ?_⟩
  have hjl : j < 1 := (List.getElem?_eq_some_iff.1 hj).1
  obtain rfl : j = 0 := by omega
  obtain rfl : a = x := by simpa using hj
  refine ⟨s, ?_, ?_, ?_, hs.below ((Below.refl _ _).alloc (Nat.le_refl _) _), hi⟩ <;> simp
theorem arys_two {W : World} {a b : Ary} {s t : Value} (hs : KL W s a.n) (ht : KL W t b.n) (hi : InL a.n) (hj : InL b.n) : ArysAt (W.alloc (.cells #[.bool a.list, .bool a.runes, s, .bool b.list, .bool b.runes, t] 24)) W.heap.size 0 [a, b] := by
  refine ⟨by rw [World.size_alloc]; exact Nat.lt_succ_self _, fun j x hx => ?_⟩
  have hjl : j < 2 := (List.getElem?_eq_some_iff.1 hx).1
  have hb := (Below.refl W.heap.size W).alloc (Nat.le_refl _) (.cells #[.bool a.list, .bool a.runes, s, .bool b.list, .bool b.runes, t] 24)
  obtain rfl | rfl : j = 0 ∨ j = 1 := by omega
  · obtain rfl : a = x := by simpa using hx
    refine ⟨s, ?_, ?_, ?_, hs.below hb, hi⟩ <;> simp
  · obtain rfl : b = x := by simpa using hx
    refine ⟨t, ?_, ?_, ?_, ht.below hb, hj⟩ <;> simp
theorem right_1 (a : Ary) (s : Value) (W : World) (hs : KL W s a.n) (hi : InL a.n) : Calls Tryz.prog 30 #[.slice (some ⟨W.heap.size, 0, none⟩) 1 1] (W.alloc (.cells #[.bool a.list, .bool a.runes, s] 24)) fun e w' => e = .returned (.bool (rightA a)) ∧ Below W.heap.size W w' := by
  have hb := (Below.refl W.heap.size W).alloc (Nat.le_refl _) (.cells #[.bool a.list, .bool a.runes, s] 24)
  refine (allRight_c W.heap.size 0 1 [a] _ (arys_one hs hi) (by simp)).mono ?_
  rintro e w' ⟨rfl, h⟩
  exact ⟨by simp, hb.trans (h.mono hb.size)⟩
theorem right_2 (a b : Ary) (s t : Value) (W : World) (hs : KL W s a.n) (ht : KL W t b.n) (hi : InL a.n) (hj : InL b.n) : Calls Tryz.prog 30 #[.slice (some ⟨W.heap.size, 0, none⟩) 2 2] (W.alloc (.cells #[.bool a.list, .bool a.runes, s, .bool b.list, .bool b.runes, t] 24)) fun e w' => e = .returned (.bool (rightA a && rightA b)) ∧ Below W.heap.size W w' := by
  have hb := (Below.refl W.heap.size W).alloc (Nat.le_refl _) (.cells #[.bool a.list, .bool a.runes, s, .bool b.list, .bool b.runes, t] 24)
  refine (allRight_c W.heap.size 0 2 [a, b] _ (arys_two hs ht hi hj) (by simp)).mono ?_
  rintro e w' ⟨rfl, h⟩
  exact ⟨by simp, hb.trans (h.mono hb.size)⟩
theorem runes_1 (a : Ary) (s : Value) (W : World) (hs : KL W s a.n) (hi : InL a.n) : Calls Tryz.prog 37 #[.slice (some ⟨W.heap.size, 0, none⟩) 1 1] (W.alloc (.cells #[.bool a.list, .bool a.runes, s] 24)) fun e w' => e = .returned (.bool (hasR a)) ∧ Below W.heap.size W w' := by
  have hb := (Below.refl W.heap.size W).alloc (Nat.le_refl _) (.cells #[.bool a.list, .bool a.runes, s] 24)
  refine (anyRunes_c W.heap.size 0 1 [a] _ (arys_one hs hi) (by simp)).mono ?_
  rintro e w' ⟨rfl, h⟩
  exact ⟨by simp, hb.trans (h.mono hb.size)⟩
theorem runes_2 (a b : Ary) (s t : Value) (W : World) (hs : KL W s a.n) (ht : KL W t b.n) (hi : InL a.n) (hj : InL b.n) : Calls Tryz.prog 37 #[.slice (some ⟨W.heap.size, 0, none⟩) 2 2] (W.alloc (.cells #[.bool a.list, .bool a.runes, s, .bool b.list, .bool b.runes, t] 24)) fun e w' => e = .returned (.bool (hasR a || hasR b)) ∧ Below W.heap.size W w' := by
  have hb := (Below.refl W.heap.size W).alloc (Nat.le_refl _) (.cells #[.bool a.list, .bool a.runes, s, .bool b.list, .bool b.runes, t] 24)
  refine (anyRunes_c W.heap.size 0 2 [a, b] _ (arys_two hs ht hi hj) (by simp)).mono ?_
  rintro e w' ⟨rfl, h⟩
  exact ⟨by simp, hb.trans (h.mono hb.size)⟩
/-- An array and an error are told. -/
def OutE (L : Bool) (ns : List Int) (c : Int) (w : World) (e : Ending) (w' : World) : Prop := Below w.heap.size w w' ∧
  ((c = 0 ∧ ∃ v, e = .returned (.tuple #[.agg #[.bool L, .bool false, v], .nilIface]) ∧ IOwn w' w.heap.size v ns) ∨ (c ≠ 0 ∧ ∃ ev, e = .returned (.tuple #[.agg #[.bool false, .bool false, .slice none 0 0], ev]) ∧ ErrA ev c))
/-- An array and a number are told. -/
def OutN (L : Bool) (ns : List Int) (c : Int) (w : World) (e : Ending) (w' : World) : Prop := Below w.heap.size w w' ∧
  ((c = 0 ∧ ∃ v, e = .returned (.tuple #[.agg #[.bool L, .bool false, v], .int .i64 0]) ∧ IOwn w' w.heap.size v ns) ∨ (c ≠ 0 ∧ e = .returned (.tuple #[.agg #[.bool false, .bool false, .slice none 0 0], .int .i64 c])))
/-- What a glyph's function of one comes to. -/
def monE (g : ByteArray) (a : Ary) : Int := if rightA a then (if decide (Nu.whichM g < 8) && !hasR a then thrE (fun _ y => Nu.monN (Nu.whichM g) y) (pairsA a a) else 102) else 114
def monL (g : ByteArray) (a : Ary) : List Int := thrN (fun _ y => Nu.monN (Nu.whichM g) y) (pairsA a a)
set_option maxRecDepth 100000 in
set_option maxHeartbeats 4000000 in
theorem ofOne_c (g : ByteArray) (a : Ary) (s : Value) (w : World) (hs : KL w s a.n) (hi : InL a.n) (hG : Nu.NG w) : Calls Tryz.prog 21 #[.string g, aryV a s] w fun e w' => OutE a.list (monL g a) (monE g a) w e w' := by
  obtain ⟨c, hc⟩ : ∃ c, c = monE g a := ⟨_, rfl⟩
  obtain ⟨ns, hns⟩ : ∃ ns, ns = monL g a := ⟨_, rfl⟩
  have HC := Lib.hid hc
  have HNS := Lib.hid hns
  rw [← hc, ← hns]
  have HRT := Lib.hid (fun W h => right_1 a s W h hi)
  have HAR := Lib.hid (fun W h => runes_1 a s W h hi)
  have HIM := Lib.hid (fun W => Nu.isMon_c g W)
  obtain ⟨rt, hrt⟩ : ∃ rt, rt = rightA a := ⟨_, rfl⟩
  obtain ⟨im, him⟩ : ∃ im, im = decide (Nu.whichM g < 8) := ⟨_, rfl⟩
  obtain ⟨hr, hhr⟩ : ∃ hr, hr = hasR a := ⟨_, rfl⟩
  have HTH : Hid (∀ W p, rt = true → KL W s a.n → Row W p 9 #[.string g] → Nu.NG W → Calls Tryz.prog 38 #[pairV a a s s, .func (.func 39) #[] #[.pointer (some ⟨p, 0, none⟩)]] W fun e w' => ThrOut (fun _ y => Nu.monN (Nu.whichM g) y) a a W e w') := Lib.hid (fun W p h hk hp hg => through_c a a s s _ _ W hk hk hi hi ⟨(right_cnt (hrt ▸ h)).2, (right_cnt (hrt ▸ h)).2, fun _ _ => rfl⟩ (lenP_le (hrt ▸ h) (hrt ▸ h)) (fn3_ok g p W hp hg))
  have HE : Hid (c = if rt then (if im && !hr then thrE (fun _ y => Nu.monN (Nu.whichM g) y) (pairsA a a) else 102) else 114) := Lib.hid (by rw [hc, hrt, him, hhr]; rfl)
  rw [← hrt] at HRT
  rw [← hhr] at HAR
  rw [← him] at HIM
  have HK := Lib.hid hs
  have HG := Lib.hid hG
  clear hrt him hhr hc hns
  obtain ⟨aL, aR, aN⟩ := a
  dsimp only [aryV, pairV] at *
  obtain ⟨sa, sc, hsf, -, -⟩ := hs.form
  obtain ⟨sn, hsn⟩ : ∃ sn, sn = aN.length := ⟨_, rfl⟩
  rw [← hsn] at hsf
  subst hsf
  clear hs hsn hi hG
  obtain ⟨w3, hw3⟩ : ∃ w3, w3 = ((w.alloc (.cells #[.string g] 9)).alloc (.cells #[.bool aL, .bool aR, .slice sa sn sc] 24)).alloc (.cells #[.bool false, .bool false, .slice none 0 0] 24) := ⟨_, rfl⟩
  have hb3 : Below w.heap.size w w3 := by rw [hw3]; exact (((Below.refl _ w).alloc (Nat.le_refl _) _).alloc (by simp) _).alloc (by simp; omega) _
  have hs3 : w3.heap.size = w.heap.size + 1 + 1 + 1 := by rw [hw3]; simp
  have r1 : Row w3 w.heap.size 9 #[.string g] := by rw [hw3]; exact ((Row.new _ _ _).alloc _).alloc _
  have r2 : Row w3 (w.heap.size + 1) 24 #[.bool aL, .bool aR, .slice sa sn sc] := by rw [hw3]; exact (Row.at _ _ _ _ (by simp)).alloc _
  have r3 : Row w3 (w.heap.size + 1 + 1) 24 #[.bool false, .bool false, .slice none 0 0] := by rw [hw3]; exact Row.at _ _ _ _ (by simp)
  have HR : Hid (∀ W, Below (w.heap.size + 1 + 1 + 1) w3 W → (W.cell? ⟨w.heap.size, 0, none⟩ = some (.string g) ∧ W.cell? ⟨w.heap.size + 1, 0, none⟩ = some (.bool aL) ∧ W.cell? ⟨w.heap.size + 1, 1, none⟩ = some (.bool aR) ∧ W.cell? ⟨w.heap.size + 1, 2, none⟩ = some (.slice sa sn sc)) ∧ W.cell? ⟨w.heap.size + 1 + 1, 0, none⟩ = some (.bool false) ∧ W.cell? ⟨w.heap.size + 1 + 1, 1, none⟩ = some (.bool false) ∧ W.cell? ⟨w.heap.size + 1 + 1, 2, none⟩ = some (.slice none 0 0) ∧ W.frozen? ⟨w.heap.size + 1 + 1, 0, none⟩ = false ∧ W.frozen? ⟨w.heap.size + 1 + 1, 1, none⟩ = false ∧ W.frozen? ⟨w.heap.size + 1 + 1, 2, none⟩ = false) := Lib.hid (fun W h => by
    obtain ⟨c0, -⟩ := row1 (r1.below h (by omega))
    obtain ⟨c1, c2, c3, -, -, -⟩ := row3 (r2.below h (by omega))
    exact ⟨⟨c0, c1, c2, c3⟩, row3 (r3.below h (by omega))⟩)
  have HRO : Hid (∀ W, Below (w.heap.size + 1 + 1 + 1) w3 W → Row W w.heap.size 9 #[.string g] ∧ Row W (w.heap.size + 1 + 1) 24 #[.bool false, .bool false, .slice none 0 0]) := Lib.hid (fun W h => ⟨r1.below h (by omega), r3.below h (by omega)⟩)
  have HKW : Hid (∀ W, Below (w.heap.size + 1 + 1 + 1) w3 W → KL W (.slice sa sn sc) aN ∧ Nu.NG W) := Lib.hid (fun W h => ⟨HK.out.below (hb3.trans (h.mono (by omega))), HG.out.below (hb3.trans (h.mono (by omega)))⟩)
  have HB3 := Lib.hid hb3
  have HN3 : Hid (w.heap.size + 1 + 1 + 1 ≤ w3.heap.size) := Lib.hid (Nat.le_of_eq hs3.symm)
  have HW3 := Lib.hid hw3
  have hrt0 := HRT.out w3 (HKW.out _ (Below.refl _ _)).1
  rw [hs3, hw3] at hrt0
  have HRT0 := Lib.hid hrt0
  have HRA := HR.out w3 (Below.refl _ _)
  obtain ⟨⟨a0, a1, a2, a3⟩, b0, b1, b2, b3, b4, b5⟩ := HRA
  clear hb3 hw3 hs3 r1 r2 r3 hrt0
  go_enter Tryz.func21, Tryz.ntmps21
  cases rt
  · have HCC : Hid (c = 114) := Lib.hid HE.out
    go_wp2_with (go_at_call 30; refine HRT0.out.mono ?_; rintro e w1 ⟨rfl, hb⟩; rw [← HW3.out] at hb; have HB1 := Lib.hid hb; obtain ⟨⟨k0, k1, k2, k3⟩, m0, m1, m2, m3, m4, m5⟩ := HR.out _ hb; clear hb)
    go_region
    all_goals
      go_wp2
      have hr4 := (row_set3 (HRO.out _ HB1.out).2 (.bool false) (.bool false) (.slice none 0 0)).drew
      obtain ⟨v0, v1, v2, -, -, -⟩ := row3 hr4
      have hbe := (((HB3.out.trans (HB1.out.mono (by omega))).setCell (p := ⟨w.heap.size + 1 + 1, 0, none⟩) (by show w.heap.size ≤ w.heap.size + 1 + 1; omega) (.bool false)).setCell (p := ⟨w.heap.size + 1 + 1, 1, none⟩) (by show w.heap.size ≤ w.heap.size + 1 + 1; omega) (.bool false)).setCell (p := ⟨w.heap.size + 1 + 1, 2, none⟩) (by show w.heap.size ≤ w.heap.size + 1 + 1; omega) (.slice none 0 0)
      refine bodyPost_ret (v := .tuple #[.agg #[.bool false, .bool false, (.slice none 0 0)], .iface 55 (.agg #[.string g, .iface 53 (.int .i64 114)])]) (by simp [results, Tryz.f21, go_sem, v0, v1, v2]) rfl ⟨hbe.drew, .inr ⟨by rw [HCC.out]; decide, _, rfl, .inr (.inr ⟨g, by rw [HCC.out]⟩)⟩⟩
  · cases im
    · have HCC : Hid (c = 102) := Lib.hid HE.out
      go_wp2_with (first
        | (go_at_call 30; refine HRT0.out.mono ?_; rintro e w1 ⟨rfl, hb⟩; rw [← HW3.out] at hb; have HB1 := Lib.hid hb; obtain ⟨⟨k0, k1, k2, k3⟩, m0, m1, m2, m3, m4, m5⟩ := HR.out _ hb; clear hb)
        | (go_at_call 36; refine (HIM.out _).mono ?_; rintro e w4 ⟨rfl, hb⟩; have HB4 := Lib.hid (HB1.out.trans (hb.mono (Nat.le_trans HN3.out HB1.out.size))); obtain ⟨⟨k10, k11, k12, k13⟩, m10, m11, m12, m13, m14, m15⟩ := HR.out _ HB4.out; clear hb))
      go_region
      all_goals
        go_wp2
        have hr4 := (row_set3 (HRO.out _ HB4.out).2 (.bool false) (.bool false) (.slice none 0 0)).drew
        obtain ⟨v0, v1, v2, -, -, -⟩ := row3 hr4
        have hbe := (((HB3.out.trans (HB4.out.mono (by omega))).setCell (p := ⟨w.heap.size + 1 + 1, 0, none⟩) (by show w.heap.size ≤ w.heap.size + 1 + 1; omega) (.bool false)).setCell (p := ⟨w.heap.size + 1 + 1, 1, none⟩) (by show w.heap.size ≤ w.heap.size + 1 + 1; omega) (.bool false)).setCell (p := ⟨w.heap.size + 1 + 1, 2, none⟩) (by show w.heap.size ≤ w.heap.size + 1 + 1; omega) (.slice none 0 0)
        refine bodyPost_ret (v := .tuple #[.agg #[.bool false, .bool false, (.slice none 0 0)], .iface 55 (.agg #[.string g, .iface 53 (.int .i64 102)])]) (by simp [results, Tryz.f21, go_sem, v0, v1, v2]) rfl ⟨hbe.drew, .inr ⟨by rw [HCC.out]; decide, _, rfl, .inr (.inr ⟨g, by rw [HCC.out]⟩)⟩⟩
    · cases hr
      · have HCC : Hid (c = thrE (fun _ y => Nu.monN (Nu.whichM g) y) (pairsA ⟨aL, aR, aN⟩ ⟨aL, aR, aN⟩)) := Lib.hid HE.out
        by_cases hz : c = 0
        · have HZ : Hid (thrE (fun _ y => Nu.monN (Nu.whichM g) y) (pairsA ⟨aL, aR, aN⟩ ⟨aL, aR, aN⟩) = 0) := Lib.hid (by rw [← HCC.out]; exact hz)
          go_wp2_with (first
            | (go_at_call 30; refine HRT0.out.mono ?_; rintro e w1 ⟨rfl, hb⟩; rw [← HW3.out] at hb; have HB1 := Lib.hid hb; obtain ⟨⟨k0, k1, k2, k3⟩, m0, m1, m2, m3, m4, m5⟩ := HR.out _ hb; clear hb)
            | (go_at_call 36; refine (HIM.out _).mono ?_; rintro e w4 ⟨rfl, hb⟩; have HB4 := Lib.hid (HB1.out.trans (hb.mono (Nat.le_trans HN3.out HB1.out.size))); obtain ⟨⟨k10, k11, k12, k13⟩, m10, m11, m12, m13, m14, m15⟩ := HR.out _ HB4.out; clear hb)
            | (go_at_call 37; refine (HAR.out _ (HKW.out _ HB4.out).1).mono ?_; rintro e w5 ⟨rfl, hb⟩; have HB5 := Lib.hid (HB4.out.trans (hb.mono (Nat.le_trans HN3.out HB4.out.size))); obtain ⟨⟨k20, k21, k22, k23⟩, m20, m21, m22, m23, m24, m25⟩ := HR.out _ HB5.out; clear hb)
            | (go_at_call 38; refine (HTH.out _ _ (by trivial) (HKW.out _ HB5.out).1 (HRO.out _ HB5.out).1 (HKW.out _ HB5.out).2).mono ?_; rintro e w6 ho; obtain ⟨va, vn, vc, rfl, hown, hb⟩ := ho.ok HZ.out; have HOWN := Lib.hid (And.intro hown (HB5.out.size)); have HB6 := Lib.hid (HB5.out.trans (hb.mono (Nat.le_trans HN3.out HB5.out.size))); obtain ⟨⟨k30, k31, k32, k33⟩, m30, m31, m32, m33, m34, m35⟩ := HR.out _ HB6.out; clear hb; clear ho hown))
          have hr4 := row_set3 (HRO.out _ HB6.out).2 (.bool aL) (.bool false) (.slice va vn vc)
          obtain ⟨v0, v1, v2, -, -, -⟩ := row3 hr4
          have hbe := (((HB3.out.trans (HB6.out.mono (by omega))).setCell (p := ⟨w.heap.size + 1 + 1, 0, none⟩) (by show w.heap.size ≤ w.heap.size + 1 + 1; omega) (.bool aL)).setCell (p := ⟨w.heap.size + 1 + 1, 1, none⟩) (by show w.heap.size ≤ w.heap.size + 1 + 1; omega) (.bool false)).setCell (p := ⟨w.heap.size + 1 + 1, 2, none⟩) (by show w.heap.size ≤ w.heap.size + 1 + 1; omega) (.slice va vn vc)
          refine bodyPost_ret (v := .tuple #[.agg #[.bool aL, .bool false, (.slice va vn vc)], .nilIface]) (by simp [results, Tryz.f21, go_sem, v0, v1, v2]) rfl ⟨hbe, .inl ⟨hz, _, rfl, ?_⟩⟩
          have hw5 := HOWN.out.2
          have hw3 := HN3.out
          have := HOWN.out.1
          rw [← show monL g ⟨aL, aR, aN⟩ = thrN (fun _ y => Nu.monN (Nu.whichM g) y) (pairsA ⟨aL, aR, aN⟩ ⟨aL, aR, aN⟩) from rfl, ← HNS.out] at this
          exact (own_off3 this (HRO.out _ HB6.out).2 _ _ _).mono (by omega)
        · have HZ : Hid (thrE (fun _ y => Nu.monN (Nu.whichM g) y) (pairsA ⟨aL, aR, aN⟩ ⟨aL, aR, aN⟩) ≠ 0) := Lib.hid (by rw [← HCC.out]; exact hz)
          go_wp2_with (first
            | (go_at_call 30; refine HRT0.out.mono ?_; rintro e w1 ⟨rfl, hb⟩; rw [← HW3.out] at hb; have HB1 := Lib.hid hb; obtain ⟨⟨k0, k1, k2, k3⟩, m0, m1, m2, m3, m4, m5⟩ := HR.out _ hb; clear hb)
            | (go_at_call 36; refine (HIM.out _).mono ?_; rintro e w4 ⟨rfl, hb⟩; have HB4 := Lib.hid (HB1.out.trans (hb.mono (Nat.le_trans HN3.out HB1.out.size))); obtain ⟨⟨k10, k11, k12, k13⟩, m10, m11, m12, m13, m14, m15⟩ := HR.out _ HB4.out; clear hb)
            | (go_at_call 37; refine (HAR.out _ (HKW.out _ HB4.out).1).mono ?_; rintro e w5 ⟨rfl, hb⟩; have HB5 := Lib.hid (HB4.out.trans (hb.mono (Nat.le_trans HN3.out HB4.out.size))); obtain ⟨⟨k20, k21, k22, k23⟩, m20, m21, m22, m23, m24, m25⟩ := HR.out _ HB5.out; clear hb)
            | (go_at_call 38; refine (HTH.out _ _ (by trivial) (HKW.out _ HB5.out).1 (HRO.out _ HB5.out).1 (HKW.out _ HB5.out).2).mono ?_; rintro e w6 ho; obtain ⟨rfl, hb⟩ := ho.bad HZ.out; rw [← HCC.out]; have HB6 := Lib.hid (HB5.out.trans (hb.mono (Nat.le_trans HN3.out HB5.out.size))); obtain ⟨⟨k30, k31, k32, k33⟩, m30, m31, m32, m33, m34, m35⟩ := HR.out _ HB6.out; clear hb; clear ho))
          have hr4 := row_set3 (HRO.out _ HB6.out).2 (.bool false) (.bool false) (.slice none 0 0)
          obtain ⟨v0, v1, v2, -, -, -⟩ := row3 hr4
          have hbe := (((HB3.out.trans (HB6.out.mono (by omega))).setCell (p := ⟨w.heap.size + 1 + 1, 0, none⟩) (by show w.heap.size ≤ w.heap.size + 1 + 1; omega) (.bool false)).setCell (p := ⟨w.heap.size + 1 + 1, 1, none⟩) (by show w.heap.size ≤ w.heap.size + 1 + 1; omega) (.bool false)).setCell (p := ⟨w.heap.size + 1 + 1, 2, none⟩) (by show w.heap.size ≤ w.heap.size + 1 + 1; omega) (.slice none 0 0)
          refine bodyPost_ret (v := .tuple #[.agg #[.bool false, .bool false, (.slice none 0 0)], faultV c]) (by simp [results, Tryz.f21, go_sem, v0, v1, v2]) rfl ⟨hbe, .inr ⟨hz, _, rfl, .inr (.inl rfl)⟩⟩
      · have HCC : Hid (c = 102) := Lib.hid HE.out
        go_wp2_with (first
          | (go_at_call 30; refine HRT0.out.mono ?_; rintro e w1 ⟨rfl, hb⟩; rw [← HW3.out] at hb; have HB1 := Lib.hid hb; obtain ⟨⟨k0, k1, k2, k3⟩, m0, m1, m2, m3, m4, m5⟩ := HR.out _ hb; clear hb)
          | (go_at_call 36; refine (HIM.out _).mono ?_; rintro e w4 ⟨rfl, hb⟩; have HB4 := Lib.hid (HB1.out.trans (hb.mono (Nat.le_trans HN3.out HB1.out.size))); obtain ⟨⟨k10, k11, k12, k13⟩, m10, m11, m12, m13, m14, m15⟩ := HR.out _ HB4.out; clear hb)
          | (go_at_call 37; refine (HAR.out _ (HKW.out _ HB4.out).1).mono ?_; rintro e w5 ⟨rfl, hb⟩; have HB5 := Lib.hid (HB4.out.trans (hb.mono (Nat.le_trans HN3.out HB4.out.size))); obtain ⟨⟨k20, k21, k22, k23⟩, m20, m21, m22, m23, m24, m25⟩ := HR.out _ HB5.out; clear hb))
        go_region
        all_goals
          go_wp2
          have hr4 := (row_set3 (HRO.out _ HB5.out).2 (.bool false) (.bool false) (.slice none 0 0)).drew
          obtain ⟨v0, v1, v2, -, -, -⟩ := row3 hr4
          have hbe := (((HB3.out.trans (HB5.out.mono (by omega))).setCell (p := ⟨w.heap.size + 1 + 1, 0, none⟩) (by show w.heap.size ≤ w.heap.size + 1 + 1; omega) (.bool false)).setCell (p := ⟨w.heap.size + 1 + 1, 1, none⟩) (by show w.heap.size ≤ w.heap.size + 1 + 1; omega) (.bool false)).setCell (p := ⟨w.heap.size + 1 + 1, 2, none⟩) (by show w.heap.size ≤ w.heap.size + 1 + 1; omega) (.slice none 0 0)
          refine bodyPost_ret (v := .tuple #[.agg #[.bool false, .bool false, (.slice none 0 0)], .iface 55 (.agg #[.string g, .iface 53 (.int .i64 102)])]) (by simp [results, Tryz.f21, go_sem, v0, v1, v2]) rfl ⟨hbe.drew, .inr ⟨by rw [HCC.out]; decide, _, rfl, .inr (.inr ⟨g, by rw [HCC.out]⟩)⟩⟩
end Go.Proofs.YthlkgfplffdiaaaGreatDoor.Ar
