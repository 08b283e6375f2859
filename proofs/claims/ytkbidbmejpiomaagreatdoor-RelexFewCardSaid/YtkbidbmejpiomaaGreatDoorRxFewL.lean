/- The statement RelexFew, as a call. -/
import Derived.Test.YtkbidbmejpiomaaGreatDoorRyF
import Derived.Laws.AppendOwn
import Derived.Laws.AppendOwnNone
import Derived.Deep.AppendLies
namespace Go.Proofs.YtkbidbmejpiomaaGreatDoor
open Go Go.RowKit Go.Shelf
attribute [local go_sem] Oper.semAt_some

set_option maxRecDepth 100000 in
set_option maxHeartbeats 4000000 in
theorem rfew_full (w : World) (hG : RG w.heap.size w) (x : ByteArray) (v : Value) (h : 4000 < (cut x).size) :
    Calls Tryz.prog 6 #[.string x, v] w fun e W' => e = .returned (.bool true) ∧ Below w.heap.size w W' := by
  have HSH := Lib.hid (shown_c w hG)
  have HNF := Lib.hid (fun W1 (hb : Below w.heap.size w W1) => new_full W1 (hG.below hb (Nat.le_refl _)).here (cut x) h)
  clear hG h
  go_enter Tryz.func6, Tryz.ntmps6
  go_wp2_with fail
  refine HSH.out.mono ?_
  rintro e w1 ⟨rfl, hb1⟩
  have B1 := Lib.hid hb1
  clear hb1
  go_wp2_with fail
  refine (cut_any _ x).mono ?_
  rintro e w2 ⟨rfl, rfl⟩
  go_wp2_with fail
  refine (HNF.out _ B1.out).mono ?_
  rintro e w2 ⟨rfl, hb2⟩
  have B2 := Lib.hid (B1.out.trans (hb2.mono B1.out.size))
  clear hb2
  go_wp2_with fail
  go_ret
  exact ⟨rfl, B2.out⟩


/-- A lexer is as it was, where a change's three cells have turned. -/
theorem Lx.chg {W W' : World} {base X b r : Nat} {T : List UInt8} {n : Nat} (h : Lx W base X b T n) (hb : Off r r W W') {cs : Array Value} (hr : Row W r 33 cs) : Lx W' base X b T n := by
  obtain ⟨E, cap, r1, r2, r3, r4⟩ := h.ex
  have key : ∀ (k : Nat) (t : TypeId) (cur : Array Value), W.heap[k]? = some (Obj.cells cur t (0, 0)) → t ≠ 33 → W'.heap[k]? = W.heap[k]? := fun k t cur hc hne => by
    have hk : k ≠ r := fun e => by
      subst e
      rw [show W.heap[k]? = _ from hr] at hc
      injection hc with hc
      injection hc with _ e2 _
      exact hne e2.symm
    exact hb.block k (Array.getElem?_eq_some_iff.1 hc).1 hk hk
  refine ⟨h.small, h.baseX, E, cap, (key X _ _ r1 (by decide)).trans r1, ownsRow_keep r2 (fun k hk => ?_), r3, fun e he => ownsRow_keep (r4 e he) (fun k hk => ?_)⟩
  · obtain ⟨cur, hc⟩ := ownsRow_at r2 hk
    exact key k _ cur hc (by decide)
  · obtain ⟨cur, hc⟩ := ownsRow_at (r4 e he) hk
    exact key k _ cur hc (by decide)
theorem RInv.chg {w : World} {lo hi X : Nat} {v : Value} {A : Nat → Int × Int × ByteArray} {m k : Nat} {W W' : World} {b : Nat} {T : List UInt8} {n r : Nat} (h : RInv w lo hi X v A m k W b T n) (hb : Off r r W W') {cs : Array Value} (hr : Row W r 33 cs) (hri : hi ≤ r) (hw : w.heap.size ≤ r) : RInv w lo hi X v A m k W' b T n := by
  obtain ⟨h1, h2, h3, h4, h5, h6, h7⟩ := h
  refine ⟨h1.chg hb hr, h2, h3.trans (hb.below h3.size hw hw), Nat.le_trans h4 hb.size, ?_, h6, h7⟩
  obtain ⟨a0, c0, e, p1, p2⟩ := h5
  refine ⟨a0, c0, e, p1, fun h0 => ?_⟩
  obtain ⟨q, off, e1, q1, q2, q3⟩ := p2 h0
  refine ⟨q, off, e1, q1, q2, fun j hj => ?_⟩
  have hq : ∀ o, W'.cell? ⟨q, o, none⟩ = W.cell? ⟨q, o, none⟩ := fun o => World.cell?_of_block (w := W) (a := ⟨q, o, none⟩) (hb.block q (by omega) (by omega) (by omega))
  rw [hq, hq, hq]
  exact q3 j hj
theorem Off.set3 (r : Nat) (W : World) (x y z : Value) : Off r r W (((W.setCell ⟨r, 0, none⟩ x).setCell ⟨r, 1, none⟩ y).setCell ⟨r, 2, none⟩ z) := (((Off.refl r r W).setCell x).setCell y).setCell z
theorem SpAny.size {W W' : World} {n₀ X b : Nat} {T : List UInt8} {n : Nat} {a m : Int} {s : List UInt8} {F O N : Nat} {E : Int} (h : SpAny W n₀ X b T n a m s F O N E W') : W.heap.size ≤ W'.heap.size := by
  obtain ⟨b', T', _, h2, _⟩ := h
  exact h2.size
theorem SpAny.row {W W' : World} {n₀ X b : Nat} {T : List UInt8} {n : Nat} {a m : Int} {s : List UInt8} {F O N : Nat} {E : Int} (h : SpAny W n₀ X b T n a m s F O N E W') {r : Nat} {t : TypeId} {cs : Array Value} (hr : Row W r t cs) (h1 : r ≠ X) (h2 : r ≠ b) : Row W' r t cs := by
  obtain ⟨b', T', _, p2, _⟩ := h
  exact (p2.block r hr.lt h1 h2).trans hr
/-- What a splice tells of its numbers. -/
theorem SpAny.tells {W W' : World} {n₀ X b : Nat} {T : List UInt8} {n : Nat} {a m : Int} {s : List UInt8} {F O N : Nat} {E : Int} (h : SpAny W n₀ X b T n a m s F O N E W') :
    (E = 0 ∧ N = s.count 10 + 1 ∧ F + O ≤ (splitL T).length) ∨ ((E == 0) = false ∧ ¬ E = 0 ∧ N = 0 ∧ F = 0 ∧ O = 0) := by
  obtain ⟨b', T', _, _, _, h⟩ := h
  rcases h with ⟨h1, h2, h3, _⟩ | ⟨h1 | h1, h2, h3, h4, _⟩
  · exact .inl ⟨h1, h2, h3⟩
  · obtain ⟨h1, _⟩ := h1
    subst h1
    exact .inr ⟨rfl, by decide, h2, h3, h4⟩
  · obtain ⟨h1, _⟩ := h1
    subst h1
    exact .inr ⟨rfl, by decide, h2, h3, h4⟩

set_option maxRecDepth 100000 in
set_option maxHeartbeats 8000000 in
theorem rfew_ok (w : World) (hG : RG w.heap.size w) (x : ByteArray) (v : Value) (A : Nat → Int × Int × ByteArray) (len : Nat) (hA : ActsIn 0 w.heap.size w v A len) (h : (cut x).size ≤ 4000) :
    Calls Tryz.prog 6 #[.string x, v] w fun e W' => e = .returned (.bool true) ∧ Below w.heap.size w W' := by
  have HSH := Lib.hid (shown_c w hG)
  have HG := Lib.hid hG
  have HA := Lib.hid hA
  have hnw := fun W1 (hb : Below w.heap.size w W1) => new_ok W1 (hG.below hb (Nat.le_refl _)).here (cut x).data.toList (by rw [← Lib.size_eq]; exact h)
  rw [bs_of] at hnw
  have HNW := Lib.hid hnw
  clear hG hA hnw
  go_enter Tryz.func6, Tryz.ntmps6
  go_wp2_with fail
  refine HSH.out.mono ?_
  rintro e w1 ⟨rfl, hb1⟩
  have B1 := Lib.hid hb1
  clear hb1
  go_wp2_with fail
  refine (cut_any _ x).mono ?_
  rintro e w2 ⟨rfl, rfl⟩
  go_wp2_with fail
  refine (HNW.out _ B1.out).mono ?_
  rintro e w4 ⟨X, b, rfl, hl4, hb4⟩
  have B4 := Lib.hid (B1.out.trans (hb4.mono B1.out.size))
  have L4 := Lib.hid (hl4.mono (base' := w.heap.size) B1.out.size)
  clear hl4 hb4
  go_wp2_with fail
  refine (few_any _ v A len 20 (by omega) ((HA.out.below B4.out (Nat.le_refl _)).wider B4.out.size)).mono ?_
  rintro e w5 ⟨v5, rfl, hA5, hb5⟩
  obtain ⟨m5, hm5⟩ : ∃ m5, m5 = min len 20 := ⟨_, rfl⟩
  have hm5' : m5 ≤ 20 := by omega
  rw [← hm5] at hA5
  have hs45 := hb5.size
  have HI5 : Hid (RInv w w4.heap.size w5.heap.size X v5 (cutA A) m5 0 w5 b (cut x).data.toList ((cut x).data.toList.count 10 + 1)) := Lib.hid ⟨L4.out.below hb5, by have h8 : (cut x).data.toList.count 10 ≤ (cut x).data.toList.length := List.count_le_length; have h9 := L4.out.small; omega, B4.out.trans (hb5.mono B4.out.size), Nat.le_refl _, hA5, L4.out.ltX, .inl L4.out.ltb.1⟩
  obtain ⟨a5, c5, rfl, hlen5, _⟩ := hA5
  unfold maxLen at hlen5
  clear hm5 hb5 HA L4 B4 B1
  go_wp2
  go_loopw [8, 9, 10, 11, 12, 13, 14] (fun i _ _ _ _ _ _ wr => ∃ (k : Nat), k ≤ m5 ∧ i = .int .i64 k ∧ ∃ b T n, RInv w w4.heap.size w5.heap.size X (.slice a5 m5 c5) (cutA A) m5 k wr b T n)
    (fun i _ _ _ _ _ _ _ => m5 - (intOf i).toNat)
  case atStart => exact ⟨0, Nat.zero_le _, rfl, _, _, _, HI5.out⟩
  case round =>
    obtain ⟨k, hk, rfl, b6, T6, n6, hI⟩ := hrel
    have HI := Lib.hid hI
    by_cases hlt : k < m5
    · obtain ⟨a6, c6, e6, _, hcs⟩ := hI.2.2.2.2.1
      cases e6
      obtain ⟨q, off, rfl, hblo, hbhi, hcc⟩ := hcs (by omega)
      obtain ⟨e1, e2, e3⟩ := hcc k hlt
      have hn6 : n6 ≤ 1000000 := by have h8 := hI.2.1; have h9 : (k + 1) * 5000 ≤ 21 * 5000 := Nat.mul_le_mul_right _ (by omega); omega
      have hsz6 : w5.heap.size ≤ wr.heap.size := hI.2.2.2.1
      have hsm6 := hI.1.small
      obtain ⟨NL, hNL⟩ : ∃ n, n = (splitL T6).length := ⟨_, rfl⟩
      have hNL1 : NL ≤ 4001 := by have : T6.count 10 ≤ T6.length := List.count_le_length; rw [hNL, splitL_len]; omega
      have hlx := lexed_c wr _ X b6 T6 n6 hI.1
      have hln := xlines_c wr _ X b6 T6 n6 hI.1
      rw [← hNL] at hln
      have HLX := Lib.hid hlx
      have HLN := Lib.hid hln
      obtain ⟨W0, hW0⟩ : ∃ W0, W0 = (wr.alloc (.cells #[.int .i64 0, .int .i64 0, .int .i64 0] 33)).drew := ⟨_, rfl⟩
      have hb0 : Below wr.heap.size wr W0 := by rw [hW0]; exact ((Below.refl _ _).alloc (Nat.le_refl _) _).drew
      have hr0 : Row W0 wr.heap.size 33 #[.int .i64 0, .int .i64 0, .int .i64 0] := by rw [hW0]; exact (Row.new _ _ _).drew
      have hIa := hI.still (Below.refl wr.heap.size wr).drew
      have hIb := hI.still hb0
      have hXr : wr.heap.size ≠ X ∧ wr.heap.size ≠ b6 := by have h1 := hI.1.ltX; have h2 := hI.1.ltb.1; omega
      have HSPa := Lib.hid (splice_any w.heap.size wr.drew (hIa.rg HG.out) X b6 T6 n6 hn6 hIa.1 (cutA A k).1 (cutA A k).2.1 (cutA A k).2.2)
      have HSPb := Lib.hid (splice_any w.heap.size W0 (hIb.rg HG.out) X b6 T6 n6 hn6 hIb.1 (cutA A k).1 (cutA A k).2.1 (cutA A k).2.2)
      have HTa := Lib.hid (fun (W' : World) (F O N : Nat) (E : Int) (hsp : SpAny wr.drew w.heap.size X b6 T6 n6 (cutA A k).1 (cutA A k).2.1 (cutA A k).2.2.data.toList F O N E W') => And.intro (hIa.step (by rw [← Lib.size_eq]; exact cut_size _) hsp) hsp.tells)
      have HTb := Lib.hid (fun (W' : World) (F O N : Nat) (E : Int) (hsp : SpAny W0 w.heap.size X b6 T6 n6 (cutA A k).1 (cutA A k).2.1 (cutA A k).2.2.data.toList F O N E W') => And.intro (hIb.step (by rw [← Lib.size_eq]; exact cut_size _) hsp) (And.intro hsp.tells (hsp.row hr0 hXr.1 hXr.2)))
      have hAC : ∀ (W' : World) b' T' n', RInv w w4.heap.size w5.heap.size X (.slice (some ⟨q, off, none⟩) m5 c5) (cutA A) m5 (k + 1) W' b' T' n' → W'.cell? ⟨q, off + k * 3, none⟩ = some (.int .i64 (cutA A k).1) ∧ W'.cell? ⟨q, off + k * 3 + 1, none⟩ = some (.int .i64 (cutA A k).2.1) ∧ W'.cell? ⟨q, off + k * 3 + 2, none⟩ = some (.string (cutA A k).2.2) := fun W' b' T' n' hI' => by
        obtain ⟨_, _, e6, _, hcs'⟩ := hI'.2.2.2.2.1
        obtain ⟨q', off', e7, _, _, hcc'⟩ := hcs' (by omega)
        cases e6
        cases e7
        exact hcc' k hlt
      have HAC := Lib.hid hAC
      have hps : (cutA A k).2.2.size ≤ 4010 := cut_size _
      have hea : W0.cell? ⟨q, off + k * 3, none⟩ = some (.int .i64 (cutA A k).1) ∧ W0.cell? ⟨q, off + k * 3 + 1, none⟩ = some (.int .i64 (cutA A k).2.1) ∧ W0.cell? ⟨q, off + k * 3 + 2, none⟩ = some (.string (cutA A k).2.2) :=
        ⟨(hb0.cell (p := ⟨q, off + k * 3, none⟩) (by dsimp only; omega)).trans e1, (hb0.cell (p := ⟨q, off + k * 3 + 1, none⟩) (by dsimp only; omega)).trans e2, (hb0.cell (p := ⟨q, off + k * 3 + 2, none⟩) (by dsimp only; omega)).trans e3⟩
      obtain ⟨p0, hp0⟩ : ∃ p, p = (cutA A k).1 := ⟨_, rfl⟩
      obtain ⟨p1, hp1⟩ : ∃ p, p = (cutA A k).2.1 := ⟨_, rfl⟩
      obtain ⟨p2, hp2⟩ : ∃ p, p = (cutA A k).2.2 := ⟨_, rfl⟩
      rw [← hp0, ← hp1, ← hp2] at HSPa HSPb HTa HTb HAC hea
      rw [← hp0] at e1
      rw [← hp1] at e2
      rw [← hp2] at e3 hps
      have HEA := Lib.hid hea
      have HPS := Lib.hid hps
      rw [hW0] at HSPb HTb HEA
      have HSZ := Lib.hid (And.intro hsz6 (And.intro hbhi (And.intro (show w.heap.size ≤ wr.heap.size from HI.out.2.2.1.size) hXr)))
      have HNL := Lib.hid hNL
      clear hcc hcs hI hIa hIb hlx hln hb0 hr0 hW0 hea hAC hp0 hp1 hp2 hNL hXr hsz6 hbhi hblo hsm6
      go_wp2_with fail
      refine HLX.out.mono ?_
      rintro e w7 ⟨rfl, hw⟩
      obtain rfl := hw.symm
      clear hw
      go_wp2_with fail
      refine HLN.out.mono ?_
      rintro e w7 ⟨rfl, hw⟩
      obtain rfl := hw.symm
      clear hw
      go_wp2_with fail
      go_region_held_law (fun w' => w'.cell? ⟨q, off + k * 3, none⟩ = some (.int .i64 p0) ∧ w'.cell? ⟨q, off + k * 3 + 1, none⟩ = some (.int .i64 p1) ∧ w'.cell? ⟨q, off + k * 3 + 2, none⟩ = some (.string p2))
        (first | exact HS7.out | exact HS8.out | exact HEA.out | exact ⟨e1, e2, e3⟩ | go_keep)
        (first
          | (go_at_call 15; (with_reducible refine HSPa.out.mono ?_); rintro e w7 ⟨F, O, N, E, rfl, hsp⟩
             obtain ⟨⟨b7, T7, hI7⟩, ht7⟩ := HTa.out w7 F O N E hsp
             have HI7 := Lib.hid hI7
             have HT7 := Lib.hid ht7
             have HS7 := Lib.hid (HAC.out w7 _ _ _ hI7)
             have HS8 := Lib.hid (HAC.out (w7.alloc (.cells #[.int .i64 (F : Int), .int .i64 (O : Int), .int .i64 (N : Int)] 33)) _ _ _ (hI7.still ((Below.refl _ _).alloc (Nat.le_refl _) _)))
             clear hI7 ht7 hsp)
          | (go_at_call 15; (with_reducible refine HSPb.out.mono ?_); rintro e w7 ⟨F, O, N, E, rfl, hsp⟩
             obtain ⟨⟨b7, T7, hI7⟩, ht7, hr7⟩ := HTb.out w7 F O N E hsp
             have HI7 := Lib.hid hI7
             have HT7 := Lib.hid ht7
             have HS7 := Lib.hid (HAC.out w7 _ _ _ hI7)
             have HS8 := Lib.hid (HAC.out _ _ _ _ (hI7.chg (Off.set3 wr.heap.size w7 (.int .i64 (F : Int)) (.int .i64 (O : Int)) (.int .i64 (N : Int))) hr7 HSZ.out.1 HSZ.out.2.2.1))
             have d0 := hr7.cell 0
             have d1 := hr7.cell 1
             have d2 := hr7.cell 2
             have g0 := hr7.frozen 0
             have g1 := hr7.frozen 1
             have g2 := hr7.frozen 2
             simp only [List.getElem?_toArray, List.getElem?_cons_zero, List.getElem?_cons_succ] at d0 d1 d2
             have HR7 := Lib.hid hr7
             clear hI7 ht7 hsp hr7))
      · obtain ⟨W2, hW2⟩ : ∃ W2, W2 = w7.alloc (.cells #[.int .i64 (F : Int), .int .i64 (O : Int), .int .i64 (N : Int)] 33) := ⟨_, rfl⟩
        obtain ⟨rr, hrr⟩ : ∃ r, r = w7.heap.size := ⟨_, rfl⟩
        have hR2 : Row W2 rr 33 #[.int .i64 (F : Int), .int .i64 (O : Int), .int .i64 (N : Int)] := by rw [hW2, hrr]; exact Row.new _ _ _
        have hI2 := HI7.out.still ((Below.refl _ _).alloc (Nat.le_refl _) (.cells #[.int .i64 (F : Int), .int .i64 (O : Int), .int .i64 (N : Int)] 33))
        have hS2 := HS8.out
        rw [← hW2] at hS2 hI2
        rw [← hW2, ← hrr]
        clear hW2 hrr
        obtain ⟨s0, s1, s2⟩ := hS2
        have hps := HPS.out
        have c0 := hR2.cell 0
        have c1 := hR2.cell 1
        have c2 := hR2.cell 2
        simp only [List.getElem?_toArray, List.getElem?_cons_zero, List.getElem?_cons_succ] at c0 c1 c2
        have hlx2 := lexed_c W2 _ X b7 T7 _ hI2.1
        rw [show ((n6 + N : Nat) : Int) = (n6 : Int) + (N : Int) by omega] at hlx2
        have HLX2 := Lib.hid hlx2
        have HI2 := Lib.hid hI2
        clear hlx2 hI2 hR2
        go_wp2
        go_loopw [13, 14] (fun mo i wr' => ∃ j : Nat, j ≤ p2.size ∧ i = .int .i64 j ∧ mo = .int .i64 (1 + (((p2.data.toList.take j).count 10 : Nat) : Int)) ∧ W2 = wr')
          (fun _ i _ => p2.size - (intOf i).toNat)
        case atStart => exact ⟨0, Nat.zero_le _, rfl, by simp, rfl⟩
        case round =>
          obtain ⟨j, hj, rfl, rfl, hw⟩ := hrel
          obtain rfl := hw
          by_cases hlt2 : j < p2.size
          · have hct : (p2.data.toList.take j).count 10 ≤ 4010 := by
              have h1 : (p2.data.toList.take j).count 10 ≤ (p2.data.toList.take j).length := List.count_le_length
              rw [List.length_take] at h1
              omega
            have hgb : (p2.data.toList)[j]? = some (p2[j]'hlt2) := by rw [List.getElem?_eq_getElem (by rw [← Lib.size_eq]; exact hlt2)]; rfl
            have hst : (p2.data.toList.take (j + 1)).count 10 = (p2.data.toList.take j).count 10 + [p2[j]'hlt2].count 10 := by
              rw [List.take_add_one, hgb, Option.toList_some, List.count_append]
            clear hgb
            obtain ⟨M, hM⟩ : ∃ M, M = (p2.data.toList.take j).count 10 := ⟨_, rfl⟩
            rw [← hM] at hct hst
            rw [← hM]
            clear hM
            by_cases hb : p2[j]'hlt2 = 10
            · have hbt : (((p2[j]'hlt2).toNat : Int) == 10) = true := by rw [hb]; rfl
              have hst2 : (p2.data.toList.take (j + 1)).count 10 = M + 1 := by rw [hst, hb]; rfl
              have HST2 := Lib.hid hst2
              clear hst hst2 hb
              go_wp2_with fail
              exact ⟨⟨j + 1, by omega, by simp, by rw [HST2.out]; congr 1, trivial⟩, by simp [intOf]; omega⟩
            · have hbt : (((p2[j]'hlt2).toNat : Int) == 10) = false := by
                simp only [beq_eq_false_iff_ne, ne_eq]
                intro h1
                exact hb (UInt8.toNat_inj.1 (by rw [show (10 : UInt8).toNat = 10 from rfl]; omega))
              have hst2 : (p2.data.toList.take (j + 1)).count 10 = M := by rw [hst, List.count_singleton]; simp [hb]
              have HST2 := Lib.hid hst2
              clear hst hst2 hb
              go_wp2_with fail
              exact ⟨⟨j + 1, by omega, by simp, by rw [HST2.out], trivial⟩, by simp [intOf]; omega⟩
          · obtain rfl : j = p2.size := by omega
            obtain ⟨M, hM⟩ : ∃ M, M = (p2.data.toList.take p2.size).count 10 := ⟨_, rfl⟩
            rw [← hM]
            rw [Lib.size_eq, List.take_length] at hM
            rcases HT7.out with ⟨hE, hN, hFO⟩ | ⟨hE, hE2, hN, hF, hO⟩
            · subst hE
              rw [← hM] at hN
              rw [← HNL.out] at hFO
              have hN1 : N ≤ 4011 := by have : M ≤ p2.data.toList.length := by rw [hM]; exact List.count_le_length
                                        rw [← Lib.size_eq] at this; omega
              have hNM : 1 + (M : Int) = (N : Int) := by omega
              rw [hNM]
              have t1 : decide ((NL : Int) < (F : Int) + (O : Int)) = false := by simp; omega
              have hF1 : F ≤ 4001 := by omega
              have hO1 : O ≤ 4001 := by omega
              clear hNM hM hN
              go_wp2_with fail
              refine HLX2.out.mono ?_
              rintro e w8 ⟨rfl, hw⟩
              obtain rfl := hw.symm
              clear hw
              go_wp2_with fail
              go_roundw
              case rel => exact ⟨k + 1, by omega, by simp, _, _, _, HI2.out⟩
              case measure => simp [intOf]; omega
            · subst hN hF hO
              have t1 : decide ((NL : Int) < 0) = false := by simp
              clear hM
              go_wp2_with fail
              refine HLX2.out.mono ?_
              rintro e w8 ⟨rfl, hw⟩
              obtain rfl := hw.symm
              clear hw
              go_wp2_with fail
              go_roundw
              case rel => exact ⟨k + 1, by omega, by simp, _, _, _, HI2.out⟩
              case measure => simp [intOf]; omega
      · obtain ⟨W2, hW2⟩ : ∃ W2, W2 = (((w7.setCell ⟨wr.heap.size, 0, none⟩ (.int .i64 (F : Int))).setCell ⟨wr.heap.size, 1, none⟩ (.int .i64 (O : Int))).setCell ⟨wr.heap.size, 2, none⟩ (.int .i64 (N : Int))) := ⟨_, rfl⟩
        obtain ⟨rr, hrr⟩ : ∃ r, r = wr.heap.size := ⟨_, rfl⟩
        have hR2 : Row W2 rr 33 #[.int .i64 (F : Int), .int .i64 (O : Int), .int .i64 (N : Int)] := by rw [hW2, hrr]; exact tok_set HR7.out _ _ _
        have hI2 := HI7.out.chg (Off.set3 wr.heap.size w7 (.int .i64 (F : Int)) (.int .i64 (O : Int)) (.int .i64 (N : Int))) HR7.out HSZ.out.1 HSZ.out.2.2.1
        have hS2 := HS8.out
        rw [← hW2] at hS2 hI2
        rw [← hW2, ← hrr]
        clear hW2 hrr d0 d1 d2 g0 g1 g2
        obtain ⟨s0, s1, s2⟩ := hS2
        have hps := HPS.out
        have c0 := hR2.cell 0
        have c1 := hR2.cell 1
        have c2 := hR2.cell 2
        simp only [List.getElem?_toArray, List.getElem?_cons_zero, List.getElem?_cons_succ] at c0 c1 c2
        have hlx2 := lexed_c W2 _ X b7 T7 _ hI2.1
        rw [show ((n6 + N : Nat) : Int) = (n6 : Int) + (N : Int) by omega] at hlx2
        have HLX2 := Lib.hid hlx2
        have HI2 := Lib.hid hI2
        clear hlx2 hI2 hR2
        go_wp2
        go_loopw [13, 14] (fun mo i wr' => ∃ j : Nat, j ≤ p2.size ∧ i = .int .i64 j ∧ mo = .int .i64 (1 + (((p2.data.toList.take j).count 10 : Nat) : Int)) ∧ W2 = wr')
          (fun _ i _ => p2.size - (intOf i).toNat)
        case atStart => exact ⟨0, Nat.zero_le _, rfl, by simp, rfl⟩
        case round =>
          obtain ⟨j, hj, rfl, rfl, hw⟩ := hrel
          obtain rfl := hw
          by_cases hlt2 : j < p2.size
          · have hct : (p2.data.toList.take j).count 10 ≤ 4010 := by
              have h1 : (p2.data.toList.take j).count 10 ≤ (p2.data.toList.take j).length := List.count_le_length
              rw [List.length_take] at h1
              omega
            have hgb : (p2.data.toList)[j]? = some (p2[j]'hlt2) := by rw [List.getElem?_eq_getElem (by rw [← Lib.size_eq]; exact hlt2)]; rfl
            have hst : (p2.data.toList.take (j + 1)).count 10 = (p2.data.toList.take j).count 10 + [p2[j]'hlt2].count 10 := by
              rw [List.take_add_one, hgb, Option.toList_some, List.count_append]
            clear hgb
            obtain ⟨M, hM⟩ : ∃ M, M = (p2.data.toList.take j).count 10 := ⟨_, rfl⟩
            rw [← hM] at hct hst
            rw [← hM]
            clear hM
            by_cases hb : p2[j]'hlt2 = 10
            · have hbt : (((p2[j]'hlt2).toNat : Int) == 10) = true := by rw [hb]; rfl
              have hst2 : (p2.data.toList.take (j + 1)).count 10 = M + 1 := by rw [hst, hb]; rfl
              have HST2 := Lib.hid hst2
              clear hst hst2 hb
              go_wp2_with fail
              exact ⟨⟨j + 1, by omega, by simp, by rw [HST2.out]; congr 1, trivial⟩, by simp [intOf]; omega⟩
            · have hbt : (((p2[j]'hlt2).toNat : Int) == 10) = false := by
                simp only [beq_eq_false_iff_ne, ne_eq]
                intro h1
                exact hb (UInt8.toNat_inj.1 (by rw [show (10 : UInt8).toNat = 10 from rfl]; omega))
              have hst2 : (p2.data.toList.take (j + 1)).count 10 = M := by rw [hst, List.count_singleton]; simp [hb]
              have HST2 := Lib.hid hst2
              clear hst hst2 hb
              go_wp2_with fail
              exact ⟨⟨j + 1, by omega, by simp, by rw [HST2.out], trivial⟩, by simp [intOf]; omega⟩
          · obtain rfl : j = p2.size := by omega
            obtain ⟨M, hM⟩ : ∃ M, M = (p2.data.toList.take p2.size).count 10 := ⟨_, rfl⟩
            rw [← hM]
            rw [Lib.size_eq, List.take_length] at hM
            rcases HT7.out with ⟨hE, hN, hFO⟩ | ⟨hE, hE2, hN, hF, hO⟩
            · subst hE
              rw [← hM] at hN
              rw [← HNL.out] at hFO
              have hN1 : N ≤ 4011 := by have : M ≤ p2.data.toList.length := by rw [hM]; exact List.count_le_length
                                        rw [← Lib.size_eq] at this; omega
              have hNM : 1 + (M : Int) = (N : Int) := by omega
              rw [hNM]
              have t1 : decide ((NL : Int) < (F : Int) + (O : Int)) = false := by simp; omega
              have hF1 : F ≤ 4001 := by omega
              have hO1 : O ≤ 4001 := by omega
              clear hNM hM hN
              go_wp2_with fail
              refine HLX2.out.mono ?_
              rintro e w8 ⟨rfl, hw⟩
              obtain rfl := hw.symm
              clear hw
              go_wp2_with fail
              go_roundw
              case rel => exact ⟨k + 1, by omega, by simp, _, _, _, HI2.out⟩
              case measure => simp [intOf]; omega
            · subst hN hF hO
              have t1 : decide ((NL : Int) < 0) = false := by simp
              clear hM
              go_wp2_with fail
              refine HLX2.out.mono ?_
              rintro e w8 ⟨rfl, hw⟩
              obtain rfl := hw.symm
              clear hw
              go_wp2_with fail
              go_roundw
              case rel => exact ⟨k + 1, by omega, by simp, _, _, _, HI2.out⟩
              case measure => simp [intOf]; omega
    · obtain rfl : k = m5 := by omega
      go_wp2_with fail
      go_ret
      exact ⟨by simp, HI.out.2.2.1⟩
theorem rfew_true (w : World) (hG : RG w.heap.size w) (x : ByteArray) (_ : x.size ≤ maxLen) (v : Value) (A : Nat → Int × Int × ByteArray) (len : Nat) (hA : ActsIn 0 w.heap.size w v A len) :
    Calls Tryz.prog 6 #[.string x, v] w fun e W' => e = .returned (.bool true) ∧ Below w.heap.size w W' := by
  by_cases h : (cut x).size ≤ 4000
  · exact rfew_ok w hG x v A len hA h
  · exact rfew_full w hG x v (by omega)
end Go.Proofs.YtkbidbmejpiomaaGreatDoor
