/- Runes in quotes; what marks a list of one item; prints. -/
import Derived.Test.YteclpoooggcdoaaGreatDoorArP
import Derived.Test.YteclpoooggcdoaaGreatDoorArOne
import Derived.Deep.RegionHeldLaw
namespace Go.Proofs.YteclpoooggcdoaaGreatDoor.Ar
open Go Go.RowKit Go.Shelf
attribute [local go_sem] Oper.semAt_some

/-- Some runes of one byte, in a quote that has been opened. -/
def quoK (L : List Int) : Nat → List UInt8
  | 0 => [39]
  | k + 1 => quoK L k ++ (if L.getD k 0 = 39 then [39] else []) ++ [UInt8.ofNat (L.getD k 0).toNat]
theorem quo_len (L : List Int) : ∀ k, (quoK L k).length ≤ 1 + 2 * k
  | 0 => Nat.le_refl _
  | k + 1 => by
    have := quo_len L k
    unfold quoK
    split <;> simp <;> omega
theorem byte_of {x : Int} (h0 : 0 ≤ x) (h1 : x ≤ 127) : Lib.byteCells [UInt8.ofNat x.toNat] = [.int .u8 x] := by
  have h2 : ((x.toNat % 256 : Nat) : Int) = x := by omega
  simp [Lib.byteCells, h2]
set_option maxRecDepth 100000 in
set_option maxHeartbeats 4000000 in
theorem quoted_c (a : Ary) (s : Value) (w : World) (hs : KL w s a.n) (hr : ∀ x ∈ a.n, 0 ≤ x ∧ x ≤ 127) (hlen : a.n.length ≤ 200) :
    Calls Tryz.prog 44 #[aryV a s] w fun e w' => e = .returned (.string ⟨(quoK a.n a.n.length ++ [39]).toArray⟩) ∧ Below w.heap.size w w' := by
  obtain ⟨L, R, N⟩ := a
  dsimp only at *
  obtain ⟨sa, sc, hsf, -, -⟩ := hs.form
  have HC := Lib.hid hs.cells
  obtain ⟨n, hn⟩ : ∃ n, n = N.length := ⟨_, rfl⟩
  rw [← hn] at hsf hlen HC ⊢
  subst hsf
  have HN := Lib.hid hn
  have HRU := Lib.hid hr
  obtain ⟨w1, hw1⟩ : ∃ w1, w1 = w.alloc (.cells #[.bool L, .bool R, .slice sa n sc] 24) := ⟨_, rfl⟩
  have hb1 : Below w.heap.size w w1 := by rw [hw1]; exact (Below.refl _ _).alloc (Nat.le_refl _) _
  have hs1 : w1.heap.size = w.heap.size + 1 := by rw [hw1]; simp
  have r1 : Row w1 w.heap.size 24 #[.bool L, .bool R, .slice sa n sc] := by rw [hw1]; exact Row.new _ _ _
  have hib := isB_new w1
  rw [hs1] at hib
  have hb2 : Below w1.heap.size w1 (w1.alloc (.cells #[.pointer none, .slice none 0 0] 78)) := (Below.refl _ _).alloc (Nat.le_refl _) _
  have hby := byte_c (w.heap.size + 1) (w.heap.size + 1) [] 39 _ hib (by simp) (by simp [hs1])
  rw [hw1] at hby
  have HBY := Lib.hid hby
  have HB2 := Lib.hid hb2
  have HB1 := Lib.hid hb1
  have HS1 := Lib.hid hs1
  have HR1 := Lib.hid r1
  have HW1 := Lib.hid hw1
  clear hs hn hr hb1 hs1 r1 hib hb2 hby hw1
  go_enter Tryz.func44, Tryz.ntmps44
  go_wp2_with (go_at_call 69; refine HBY.out.mono ?_; rintro e w3 ⟨rfl, hib, hb⟩; rw [← HW1.out] at hb; have hb3 := (HB2.out.mono (by have := HS1.out; omega)).trans hb; obtain ⟨c0, c1, c2, -, -, -⟩ := row3 (HR1.out.below hb3 (by omega)); have HIB3 := Lib.hid hib; have HB3 := Lib.hid hb3; clear hib hb hb3)
  go_loopw [10] (fun i wr => ∃ k : Nat, k ≤ n ∧ i = .int .i64 (k : Int) ∧ IsB (w.heap.size + 1) (w.heap.size + 1) (Lib.byteCells (quoK N k)) wr ∧ Below (w.heap.size + 1) w1 wr) (fun i _ => n - (intOf i).toNat)
  case atStart => exact ⟨0, Nat.zero_le _, rfl, HIB3.out, HB3.out⟩
  case round =>
    obtain ⟨k, hk, rfl, hib, hbw⟩ := hrel
    have HIB := Lib.hid hib
    have HBW := Lib.hid hbw
    have hql := quo_len N k
    have HSZ : Hid (w.heap.size + 1 ≤ wr.heap.size) := Lib.hid (by have := hbw.size; have := HS1.out; omega)
    by_cases hlt : k < n
    · obtain ⟨g, o, c1, e, hg, hc⟩ := HC.out (by omega)
      injection e with e1 e2 e3
      subst e1 e3
      obtain ⟨x, hx⟩ := at_of (L := N) (k := k) (by rw [← HN.out]; exact hlt)
      have d0 := (hbw.cell (p := ⟨g, o + k, none⟩) (by show g < w.heap.size + 1; omega)).trans ((HB1.out.cell (p := ⟨g, o + k, none⟩) hg).trans (hc k x hx))
      have hgx : N.getD k 0 = x := by rw [List.getD_eq_getElem?_getD, hx]; rfl
      obtain ⟨x0, x1⟩ := HRU.out x (List.mem_of_getElem? hx)
      have hwx : wrap32 x = x := by unfold wrap32; omega
      have HSN : Hid (quoK N (k + 1) = quoK N k ++ (if x = 39 then [39] else []) ++ [UInt8.ofNat x.toNat]) := Lib.hid (by rw [← hgx]; rfl)
      have HXB := Lib.hid (byte_of x0 x1)
      by_cases hx9 : x = 39
      · have t0 : (x == 39) = true := by simp [hx9]
        have HX9 := Lib.hid hx9
        have HBY2 := Lib.hid (byte_c (w.heap.size + 1) (w.heap.size + 1) (Lib.byteCells (quoK N k)) 39 wr hib (by rw [Lib.byteCells_length]; omega) HSZ.out)
        have HRN := Lib.hid (fun W (h : IsB (w.heap.size + 1) (w.heap.size + 1) (Lib.byteCells (quoK N k) ++ [.int .u8 39]) W) (hs : w.heap.size + 1 ≤ W.heap.size) => rune_c (w.heap.size + 1) (w.heap.size + 1) (Lib.byteCells (quoK N k) ++ [.int .u8 39]) x W h (by rw [List.length_append, Lib.byteCells_length]; simp; omega) hs x0 x1)
        clear hib hbw hc hx hgx x0 x1 e2 hg hx9 hql
        go_wp2_with (first
          | (go_at_call 69; refine HBY2.out.mono ?_; rintro e w4 ⟨rfl, hib, hb⟩; have HIB4 := Lib.hid hib; have HB4 := Lib.hid hb; clear hib hb)
          | (go_at_call 70; refine (HRN.out _ HIB4.out (Nat.le_trans HSZ.out HB4.out.size)).mono ?_; rintro e w5 ⟨⟨nn, rfl⟩, hib, hb⟩; have HIB5 := Lib.hid hib; have HB5 := Lib.hid hb; clear hib hb))
        go_roundw
        case rel =>
          refine ⟨k + 1, by omega, by go_num, ?_, HBW.out.trans (HB4.out.trans HB5.out)⟩
          rw [HSN.out, if_pos HX9.out, Lib.byteCells_append, Lib.byteCells_append, HXB.out]
          exact HIB5.out
        case measure => simp [intOf]; omega
      · have t0 : (x == 39) = false := by simp [hx9]
        have HX9 := Lib.hid hx9
        have HRN := Lib.hid (rune_c (w.heap.size + 1) (w.heap.size + 1) (Lib.byteCells (quoK N k)) x wr hib (by rw [Lib.byteCells_length]; omega) HSZ.out x0 x1)
        clear hib hbw hc hx hgx x0 x1 e2 hg hx9 hql
        go_wp2_with (go_at_call 70; refine HRN.out.mono ?_; rintro e w5 ⟨⟨nn, rfl⟩, hib, hb⟩; have HIB5 := Lib.hid hib; have HB5 := Lib.hid hb; clear hib hb)
        go_roundw
        case rel =>
          refine ⟨k + 1, by omega, by go_num, ?_, HBW.out.trans HB5.out⟩
          rw [HSN.out, if_neg HX9.out, List.append_nil, Lib.byteCells_append, HXB.out]
          exact HIB5.out
        case measure => simp [intOf]; omega
    · have hkn : k = n := by omega
      subst hkn
      have HBY2 := Lib.hid (byte_c (w.heap.size + 1) (w.heap.size + 1) (Lib.byteCells (quoK N k)) 39 wr hib (by rw [Lib.byteCells_length]; omega) HSZ.out)
      have HST : Hid (∀ W, IsB (w.heap.size + 1) (w.heap.size + 1) (Lib.byteCells (quoK N k) ++ [.int .u8 39]) W → w.heap.size + 1 ≤ W.heap.size → Calls Tryz.prog 71 #[.pointer (some ⟨w.heap.size + 1, 0, none⟩)] W fun e w' => e = .returned (.string ⟨(quoK N k ++ [39]).toArray⟩) ∧ Below (w.heap.size + 1) W w') := Lib.hid (fun W h hs => Tryz.Builder_String_any (w.heap.size + 1) (w.heap.size + 1) (quoK N k ++ [39]) W (by rw [Lib.byteCells_append]; exact h) hs)
      obtain ⟨u, hu⟩ : ∃ u, u = quoK N k ++ [39] := ⟨_, rfl⟩
      rw [← hu] at HST
      have HU := Lib.hid hu
      clear hib hbw hql hu
      go_wp2_with (first
        | (go_at_call 69; refine HBY2.out.mono ?_; rintro e w4 ⟨rfl, hib, hb⟩; have HIB4 := Lib.hid hib; have HB4 := Lib.hid hb; clear hib hb)
        | (go_at_call 71; refine (HST.out _ HIB4.out (Nat.le_trans HSZ.out HB4.out.size)).mono ?_; rintro e w2 ⟨rfl, hb⟩; have HB5 := Lib.hid hb; clear hb))
      go_ret
      exact ⟨by rw [← HU.out]; rfl, HB1.out.trans ((HBW.out.trans (HB4.out.trans HB5.out)).mono (by omega))⟩
set_option maxRecDepth 100000 in
set_option maxHeartbeats 1000000 in
/-- What is no list of one item is not marked. -/
theorem marked_c (a : Ary) (s : Value) (u : ByteArray) (w : World) (hs : KL w s a.n) (hm : a.list = false ∨ a.n.length ≠ 1) : Calls Tryz.prog 43 #[aryV a s, .string u] w fun e w' => e = .returned (.string u) ∧ Below w.heap.size w w' := by
  obtain ⟨L, R, N⟩ := a
  dsimp only at *
  obtain ⟨sa, sc, hsf, -, -⟩ := hs.form
  obtain ⟨n, hn⟩ : ∃ n, n = N.length := ⟨_, rfl⟩
  rw [← hn] at hsf hm
  subst hsf
  have HB := Lib.hid ((Below.refl w.heap.size w).alloc (Nat.le_refl _) (.cells #[.bool L, .bool R, .slice sa n sc] 24))
  clear hs hn
  cases L
  · go_enter Tryz.func43, Tryz.ntmps43
    go_wp2
    go_ret
    exact ⟨rfl, HB.out⟩
  · have h1 : n ≠ 1 := by
      rcases hm with h | h
      · cases h
      · exact h
    have t0 : ((n : Int) == 1) = false := by simp; omega
    clear h1 hm
    go_enter Tryz.func43, Tryz.ntmps43
    go_wp2
    go_ret
    exact ⟨rfl, HB.out⟩
set_option maxRecDepth 100000 in
set_option maxHeartbeats 4000000 in
/-- Print(a), of a right array: of what stands in it. -/
theorem print_c (a : Ary) (s : Value) (u : ByteArray) (w : World) (hs : KL w s a.n) (hi : InL a.n) (hr : rightA a = true) (hm : a.list = false ∨ a.n.length ≠ 1)
    (hq : a.runes = true → ∀ W, Below w.heap.size w W → Calls Tryz.prog 44 #[aryV a s] W fun e w' => e = .returned (.string u) ∧ Below W.heap.size W w')
    (hd : a.runes = false → ∀ W, Below w.heap.size w W → Calls Tryz.prog 45 #[aryV a s] W fun e w' => e = .returned (.string u) ∧ Below W.heap.size W w') :
    Calls Tryz.prog 29 #[aryV a s] w fun e w' => e = .returned (.string u) ∧ Below w.heap.size w w' := by
  obtain ⟨w1, hw1⟩ : ∃ w1, w1 = w.alloc (.cells #[.bool a.list, .bool a.runes, s] 24) := ⟨_, rfl⟩
  have hb1 : Below w.heap.size w w1 := by rw [hw1]; exact (Below.refl _ _).alloc (Nat.le_refl _) _
  have hs1 : w1.heap.size = w.heap.size + 1 := by rw [hw1]; simp
  have r1 : Row w1 w.heap.size 24 #[.bool a.list, .bool a.runes, s] := by rw [hw1]; exact Row.new _ _ _
  have hrt := right_1 a s w1 (hs.below hb1) hi
  rw [hr, hs1, hw1] at hrt
  have HRT := Lib.hid hrt
  have HMK : Hid (∀ W, Below w.heap.size w W → Calls Tryz.prog 43 #[aryV a s, .string u] W fun e w' => e = .returned (.string u) ∧ Below W.heap.size W w') := Lib.hid (fun W h => marked_c a s u W (hs.below h) hm)
  obtain ⟨L, R, N⟩ := a
  dsimp only [aryV] at *
  obtain ⟨sa, sc, hsf, -, -⟩ := hs.form
  obtain ⟨n, hn⟩ : ∃ n, n = N.length := ⟨_, rfl⟩
  rw [← hn] at hsf
  subst hsf
  have HW1 := Lib.hid hw1
  have HB1 := Lib.hid hb1
  have HS1 := Lib.hid hs1
  have HR1 := Lib.hid r1
  have HQ := Lib.hid hq
  have HD := Lib.hid hd
  clear hs hn hw1 hb1 hs1 r1 hrt hq hd hr hi hm
  cases R
  · go_enter Tryz.func29, Tryz.ntmps29
    go_wp2_with (go_at_call 41; refine HRT.out.mono ?_; rintro e w2 ⟨rfl, hb⟩; rw [← HW1.out] at hb; obtain ⟨c0, c1, c2, -, -, -⟩ := row3 (HR1.out.below hb (by omega)); have HB2 := Lib.hid hb; clear hb)
    have hbw2 : Below w.heap.size w w2.drew := HB1.out.trans ((HB2.out.mono (by omega)).drew)
    have HBW := Lib.hid hbw2
    have HDW := Lib.hid (HD.out (by trivial) w2.drew hbw2)
    clear hbw2
    go_region_held_law (fun W => W.cell? ⟨w.heap.size, 0, none⟩ = some (.bool L) ∧ W.cell? ⟨w.heap.size, 1, none⟩ = some (.bool false) ∧ W.cell? ⟨w.heap.size, 2, none⟩ = some (.slice sa n sc)) (first | exact ⟨c0, c1, c2⟩ | exact ⟨k0, k1, k2⟩ | exact ⟨m0, m1, m2⟩) ((first
      | (go_at_call 45; refine HDW.out.mono ?_; rintro e w3 ⟨rfl, hb⟩; obtain ⟨k0, k1, k2, -, -, -⟩ := row3 ((HR1.out.below HB2.out (by omega)).drew.below hb (by have := HB2.out.size; have := HS1.out; show w.heap.size < w2.heap.size; omega)); have HB3 := Lib.hid (HBW.out.trans (hb.mono HBW.out.size)); clear hb)
      | (go_at_call 43; refine (HMK.out _ HB3.out).mono ?_; rintro e w4 ⟨rfl, hb⟩; obtain ⟨m0, m1, m2⟩ : w4.cell? ⟨w.heap.size, 0, none⟩ = some (.bool L) ∧ w4.cell? ⟨w.heap.size, 1, none⟩ = some (.bool false) ∧ w4.cell? ⟨w.heap.size, 2, none⟩ = some (.slice sa n sc) := ⟨(hb.cell (p := ⟨w.heap.size, 0, none⟩) (World.block_lt_of_cell? w3 _ k0)).trans k0, (hb.cell (p := ⟨w.heap.size, 1, none⟩) (World.block_lt_of_cell? w3 _ k1)).trans k1, (hb.cell (p := ⟨w.heap.size, 2, none⟩) (World.block_lt_of_cell? w3 _ k2)).trans k2⟩; have HB4 := Lib.hid (HB3.out.trans (hb.mono HB3.out.size)); clear hb)))
    all_goals go_wp2
    all_goals go_ret
    all_goals exact ⟨rfl, HB4.out⟩
  · go_enter Tryz.func29, Tryz.ntmps29
    go_wp2_with (go_at_call 41; refine HRT.out.mono ?_; rintro e w2 ⟨rfl, hb⟩; rw [← HW1.out] at hb; obtain ⟨c0, c1, c2, -, -, -⟩ := row3 (HR1.out.below hb (by omega)); have HB2 := Lib.hid hb; clear hb)
    have hbw2 : Below w.heap.size w w2.drew := HB1.out.trans ((HB2.out.mono (by omega)).drew)
    have HBW := Lib.hid hbw2
    have HDW := Lib.hid (HQ.out (by trivial) w2.drew hbw2)
    clear hbw2
    go_region_held_law (fun W => W.cell? ⟨w.heap.size, 0, none⟩ = some (.bool L) ∧ W.cell? ⟨w.heap.size, 1, none⟩ = some (.bool true) ∧ W.cell? ⟨w.heap.size, 2, none⟩ = some (.slice sa n sc)) (first | exact ⟨c0, c1, c2⟩ | exact ⟨k0, k1, k2⟩ | exact ⟨m0, m1, m2⟩) ((first
      | (go_at_call 44; refine HDW.out.mono ?_; rintro e w3 ⟨rfl, hb⟩; obtain ⟨k0, k1, k2, -, -, -⟩ := row3 ((HR1.out.below HB2.out (by omega)).drew.below hb (by have := HB2.out.size; have := HS1.out; show w.heap.size < w2.heap.size; omega)); have HB3 := Lib.hid (HBW.out.trans (hb.mono HBW.out.size)); clear hb)
      | (go_at_call 43; refine (HMK.out _ HB3.out).mono ?_; rintro e w4 ⟨rfl, hb⟩; obtain ⟨m0, m1, m2⟩ : w4.cell? ⟨w.heap.size, 0, none⟩ = some (.bool L) ∧ w4.cell? ⟨w.heap.size, 1, none⟩ = some (.bool true) ∧ w4.cell? ⟨w.heap.size, 2, none⟩ = some (.slice sa n sc) := ⟨(hb.cell (p := ⟨w.heap.size, 0, none⟩) (World.block_lt_of_cell? w3 _ k0)).trans k0, (hb.cell (p := ⟨w.heap.size, 1, none⟩) (World.block_lt_of_cell? w3 _ k1)).trans k1, (hb.cell (p := ⟨w.heap.size, 2, none⟩) (World.block_lt_of_cell? w3 _ k2)).trans k2⟩; have HB4 := Lib.hid (HB3.out.trans (hb.mono HB3.out.size)); clear hb)))
    all_goals go_wp2
    all_goals go_ret
    all_goals exact ⟨rfl, HB4.out⟩
end Go.Proofs.YteclpoooggcdoaaGreatDoor.Ar
