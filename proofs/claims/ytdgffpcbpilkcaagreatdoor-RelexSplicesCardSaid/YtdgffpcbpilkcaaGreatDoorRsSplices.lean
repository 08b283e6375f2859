/- The statement RelexSplices, as a call (by wip/gen/rs_law.py). -/
import Derived.Test.YtdgffpcbpilkcaaGreatDoorRsTokens
import Derived.Laws.StructEq
import Derived.Deep.RegionHeldLaw
namespace Go.Proofs.YtdgffpcbpilkcaaGreatDoor
open Go Go.RowKit Go.Shelf
attribute [local go_sem] Oper.semAt_some
/-- A lexer is as it was, where a change's three cells have turned. -/
theorem Lx.chg {W W' : World} {base X b r : Nat} {T : List UInt8} {n : Nat} (h : Lx W base X b T n) (hb : Off r r W W') {cs : Array Value} (hr : Row W r 33 cs) : Lx W' base X b T n := by
  obtain ⟨E, cap, r1, r2, r3, r4⟩ := h.ex
  have key : ∀ (k : Nat) (t : TypeId) (cur : Array Value), W.heap[k]? = some (Obj.cells cur t (0, 0)) → t ≠ 33 → W'.heap[k]? = W.heap[k]? := fun k t cur hc hne => by
    have hk : k ≠ r := fun e => by
      subst e
      rw [show W.heap[k]? = _ from hr] at hc
      injection hc with hc
      injection hc with _ e2 _
      exact hne e2.symm
    exact hb.block k (Array.getElem?_eq_some_iff.1 hc).1 hk hk
  refine ⟨h.small, h.baseX, E, cap, (key X _ _ r1 (by decide)).trans r1, ownsRow_keep r2 (fun k hk => ?_), r3, fun e he => ownsRow_keep (r4 e he) (fun k hk => ?_)⟩
  · obtain ⟨cur, hc⟩ := ownsRow_at r2 hk
    exact key k _ cur hc (by decide)
  · obtain ⟨cur, hc⟩ := ownsRow_at (r4 e he) hk
    exact key k _ cur hc (by decide)
theorem RInv.chg {w : World} {lo hi X : Nat} {v : Value} {A : Nat → Int × Int × ByteArray} {m k : Nat} {W W' : World} {b : Nat} {T : List UInt8} {n r : Nat} (h : RInv w lo hi X v A m k W b T n) (hb : Off r r W W') {cs : Array Value} (hr : Row W r 33 cs) (hri : hi ≤ r) (hw : w.heap.size ≤ r) : RInv w lo hi X v A m k W' b T n := by
  obtain ⟨h1, h2, h3, h4, h5, h6, h7⟩ := h
  refine ⟨h1.chg hb hr, h2, h3.trans (hb.below h3.size hw hw), Nat.le_trans h4 hb.size, ?_, h6, h7⟩
  obtain ⟨a0, c0, e, p1, p2⟩ := h5
  refine ⟨a0, c0, e, p1, fun h0 => ?_⟩
  obtain ⟨q, off, e1, q1, q2, q3⟩ := p2 h0
  refine ⟨q, off, e1, q1, q2, fun j hj => ?_⟩
  have hq : ∀ o, W'.cell? ⟨q, o, none⟩ = W.cell? ⟨q, o, none⟩ := fun o => World.cell?_of_block (w := W) (a := ⟨q, o, none⟩) (hb.block q (by omega) (by omega) (by omega))
  rw [hq, hq, hq]
  exact q3 j hj
theorem Off.set3 (r : Nat) (W : World) (x y z : Value) : Off r r W (((W.setCell ⟨r, 0, none⟩ x).setCell ⟨r, 1, none⟩ y).setCell ⟨r, 2, none⟩ z) := (((Off.refl r r W).setCell x).setCell y).setCell z
theorem SpAny.size {W W' : World} {n₀ X b : Nat} {T : List UInt8} {n : Nat} {a m : Int} {s : List UInt8} {F O N : Nat} {E : Int} (h : SpAny W n₀ X b T n a m s F O N E W') : W.heap.size ≤ W'.heap.size := by
  obtain ⟨b', T', _, h2, _⟩ := h
  exact h2.size
theorem SpAny.row {W W' : World} {n₀ X b : Nat} {T : List UInt8} {n : Nat} {a m : Int} {s : List UInt8} {F O N : Nat} {E : Int} (h : SpAny W n₀ X b T n a m s F O N E W') {r : Nat} {t : TypeId} {cs : Array Value} (hr : Row W r t cs) (h1 : r ≠ X) (h2 : r ≠ b) : Row W' r t cs := by
  obtain ⟨b', T', _, p2, _⟩ := h
  exact (p2.block r hr.lt h1 h2).trans hr

namespace Rs

set_option maxRecDepth 100000 in
set_option maxHeartbeats 4000000 in
theorem rspl_full (w : World) (hG : RG w.heap.size w) (x : ByteArray) (v : Value) (i : Int) (h : 4000 < (cut x).size) :
    Calls Tryz.prog 3 #[.string x, v, .int .i64 i] w fun e W' => e = .returned (.bool true) ∧ Below w.heap.size w W' := by
  have HSH := Lib.hid (shown_c w hG)
  have HNF := Lib.hid (fun W1 (hb : Below w.heap.size w W1) => new_full W1 (hG.below hb (Nat.le_refl _)).here (cut x) h)
  obtain ⟨S, hS⟩ : ∃ S, S = cut x := ⟨_, rfl⟩
  have hcut : ∀ W, Calls Tryz.prog 10 #[.string x] W fun e W' => e = .returned (.string S) ∧ W = W' := fun W => by rw [hS]; exact cut_any W x
  have hSz : S.size ≤ 4010 := by rw [hS]; exact cut_size x
  rw [← hS] at h HNF
  have h4 : (4000 : Int) < (S.size : Int) := by omega
  have HC := Lib.hid hcut
  clear hG h hS hcut
  go_enter Tryz.func3, Tryz.ntmps3
  go_wp2_with fail
  refine HSH.out.mono ?_
  rintro e w1 ⟨rfl, hb1⟩
  have B1 := Lib.hid hb1
  clear hb1
  go_wp2_with fail
  refine (HC.out _).mono ?_
  rintro e w2 ⟨rfl, rfl⟩
  go_wp2_with fail
  refine (HNF.out _ B1.out).mono ?_
  rintro e w2 ⟨rfl, hb2⟩
  have B2 := Lib.hid (B1.out.trans (hb2.mono B1.out.size))
  clear hb2
  go_wp2_with fail
  go_ret
  exact ⟨by simp, B2.out⟩

/-- Behind one more splice, with what it tells. -/
theorem RInv_told {w : World} {lo hi X : Nat} {v : Value} {A : Nat → Int × Int × ByteArray} {m k : Nat} {W W' : World} {b : Nat} {T : List UInt8} {n : Nat} (h : RInv w lo hi X v A m k W b T n) {a' m' : Int} {s : List UInt8} {F O N : Nat} {E : Int} (_ : s.length ≤ 4010) (hsp : SpAny W w.heap.size X b T n a' m' s F O N E W') :
    ∃ b' T', RInv w lo hi X v A m (k + 1) W' b' T' (n + N) ∧ Told T a' m' s F O N E T' ∧ N ≤ 4011 := by
  obtain ⟨b', T', q1, q2, q3, q4⟩ := hsp
  obtain ⟨h1, h2, h3, h4, h5, h6, h7⟩ := h
  have hN : N ≤ 4011 := by
    rcases q4 with ⟨_, e, _⟩ | ⟨_, e, _⟩
    · have : s.count 10 ≤ s.length := List.count_le_length
      omega
    · omega
  have hw := h3.size
  refine ⟨b', T', ⟨q1, by omega, h3.trans (q2.below hw h1.baseX h1.ltb.2.1), Nat.le_trans h4 q2.size, h5.off q2 h6 h7 h4, h6, ?_⟩, ?_, hN⟩
  · rcases q3 with e | e
    · rw [e]; exact h7
    · right; omega
  · rcases q4 with ⟨e1, e2, _, A, M, e3⟩ | ⟨e1, e2, e3, e4, e5, _⟩
    · exact .inl ⟨e1, e2, A, M, e3⟩
    · exact .inr ⟨e1, e2, e3, e4, e5⟩
theorem count_le (T : List UInt8) : T.count 10 ≤ T.length := List.count_le_length

set_option maxRecDepth 100000 in
set_option maxHeartbeats 16000000 in
theorem rspl_ok (w : World) (hG : RG w.heap.size w) (x : ByteArray) (v : Value) (A : Nat → Int × Int × ByteArray) (len : Nat) (hA : ActsIn 0 w.heap.size w v A len) (i : Int) (h : (cut x).size ≤ 4000) :
    Calls Tryz.prog 3 #[.string x, v, .int .i64 i] w fun e W' => e = .returned (.bool true) ∧ Below w.heap.size w W' := by
  have HSH := Lib.hid (shown_c w hG)
  have HG := Lib.hid hG
  have HA := Lib.hid hA
  obtain ⟨T0, hT0⟩ : ∃ T, bs T = cut x := ⟨(cut x).data.toList, bs_of _⟩
  have hcut : ∀ W, Calls Tryz.prog 10 #[.string x] W fun e W' => e = .returned (.string (bs T0)) ∧ W = W' := fun W => by rw [hT0]; exact cut_any W x
  rw [← hT0, bs_size] at h
  have hnw := fun W1 (hb : Below w.heap.size w W1) => new_ok W1 (hG.below hb (Nat.le_refl _)).here T0 h
  have HNW := Lib.hid hnw
  have HC := Lib.hid hcut
  obtain ⟨S0, hS0⟩ : ∃ S, S = bs T0 := ⟨_, rfl⟩
  have HS0 := Lib.hid hS0
  have hsz0 : S0.size = T0.length := by rw [hS0, bs_size]
  have h4 : ¬ (4000 : Int) < (S0.size : Int) := by omega
  have h4b : S0.size ≤ 4000 := by omega
  have HT0 := Lib.hid h
  have HLN0 := Lib.hid (fun W => rlines_n W T0 (by omega))
  have hc0 := count_le T0
  obtain ⟨n0, hn0⟩ : ∃ n, n = (splitL T0).length := ⟨_, rfl⟩
  have hn0' : n0 = T0.count 10 + 1 := by rw [hn0, splitL_len]
  rw [← hn0] at HLN0
  have HN0 := Lib.hid hn0'
  have hn1 : n0 ≤ 4001 := by omega
  rw [← hS0] at HC HNW HLN0
  clear hG hA hnw hcut hT0 hsz0 h hn0 hn0' hc0 hS0
  go_enter Tryz.func3, Tryz.ntmps3
  go_wp2_with fail
  refine HSH.out.mono ?_
  rintro e w1 ⟨rfl, hb1⟩
  have B1 := Lib.hid hb1
  clear hb1
  go_wp2_with fail
  refine (HC.out _).mono ?_
  rintro e w2 ⟨rfl, rfl⟩
  go_wp2_with fail
  refine (HNW.out _ B1.out).mono ?_
  rintro e w3 ⟨X, b, rfl, hl3, hb3⟩
  have B3 := Lib.hid (B1.out.trans (hb3.mono B1.out.size))
  have L3 := Lib.hid (hl3.mono (base' := w.heap.size) B1.out.size)
  clear hl3 hb3
  go_wp2_with fail
  refine (HLN0.out _).mono ?_
  rintro e w4 ⟨⟨g4, c4, rfl⟩, hb4⟩
  have B4 := Lib.hid (B3.out.trans (hb4.mono B3.out.size))
  have L4 := Lib.hid (L3.out.below hb4)
  clear hb4
  go_wp2_with fail
  refine (few_any _ v A len 20 (by omega) ((HA.out.below B4.out (Nat.le_refl _)).wider B4.out.size)).mono ?_
  rintro e w5 ⟨v5, rfl, hA5, hb5⟩
  obtain ⟨m5, hm5⟩ : ∃ m5, m5 = min len 20 := ⟨_, rfl⟩
  have hm5' : m5 ≤ 20 := by omega
  rw [← hm5] at hA5
  have hs45 := hb5.size
  have HI5 : Hid (RInv w w4.heap.size w5.heap.size X v5 (cutA A) m5 0 w5 b T0 n0) := Lib.hid ⟨by rw [HN0.out]; exact L4.out.below hb5, by omega, B4.out.trans (hb5.mono B4.out.size), Nat.le_refl _, hA5, L4.out.ltX, .inl L4.out.ltb.1⟩
  obtain ⟨a5, c5, rfl, hlen5, _⟩ := hA5
  unfold maxLen at hlen5
  rw [HS0.out]
  clear hm5 hb5 HA L4 L3 B4 B3 B1 h4 h4b
  go_wp2
  go_loopw [0, 10, 11, 12, 13, 14, 15, 16] (fun s lx i _ _ _ _ _ wr => ∃ (k : Nat), k ≤ m5 ∧ i = .int .i64 k ∧ ∃ (b : Nat) (T : List UInt8) (n : Nat), s = .string (bs T) ∧ lx = .int .i64 (n : Int) ∧ RInv w w4.heap.size w5.heap.size X (.slice a5 m5 c5) (cutA A) m5 k wr b T n)
    (fun _ _ i _ _ _ _ _ _ => m5 - (intOf i).toNat)
  case atStart => exact ⟨0, Nat.zero_le _, rfl, _, _, _, rfl, rfl, HI5.out⟩
  case round =>
    obtain ⟨k, hk, rfl, b6, T6, n6, rfl, rfl, hI⟩ := hrel
    have HI := Lib.hid hI
    by_cases hlt : k < m5
    · obtain ⟨a6, c6, e6, _, hcs⟩ := hI.2.2.2.2.1
      cases e6
      obtain ⟨q, off, rfl, hblo, hbhi, hcc⟩ := hcs (by omega)
      obtain ⟨e1, e2, e3⟩ := hcc k hlt
      have hn6 : n6 ≤ 110000 := by have h8 := hI.2.1; have h9 : (k + 1) * 5000 ≤ 21 * 5000 := Nat.mul_le_mul_right _ (by omega); omega
      have hsz6 : w5.heap.size ≤ wr.heap.size := hI.2.2.2.1
      have hsm6 : T6.length ≤ 4000 := hI.1.small
      have hps : (cutA A k).2.2.size ≤ 4010 := cut_size _
      have hXr : X < wr.heap.size ∧ b6 < wr.heap.size := ⟨hI.1.ltX, hI.1.ltb.1⟩
      obtain ⟨p0, hp0⟩ : ∃ p, p = (cutA A k).1 := ⟨_, rfl⟩
      obtain ⟨p1, hp1⟩ : ∃ p, p = (cutA A k).2.1 := ⟨_, rfl⟩
      obtain ⟨p2, hp2⟩ : ∃ p, p = (cutA A k).2.2 := ⟨_, rfl⟩
      rw [← hp2] at hps
      rw [← hp0] at e1
      rw [← hp1] at e2
      rw [← hp2] at e3
      have HRP := Lib.hid (fun W => rsplice_c W T6 hsm6 p0 p1 p2 hps)
      have HACw : Hid (∀ W', Below wr.heap.size wr W' → W'.cell? ⟨q, off + k * 3, none⟩ = some (.int .i64 p0) ∧ W'.cell? ⟨q, off + k * 3 + 1, none⟩ = some (.int .i64 p1) ∧ W'.cell? ⟨q, off + k * 3 + 2, none⟩ = some (.string p2)) := Lib.hid (fun W' hb =>
        ⟨(hb.cell (p := ⟨q, off + k * 3, none⟩) (by dsimp only; omega)).trans e1, (hb.cell (p := ⟨q, off + k * 3 + 1, none⟩) (by dsimp only; omega)).trans e2, (hb.cell (p := ⟨q, off + k * 3 + 2, none⟩) (by dsimp only; omega)).trans e3⟩)
      have HACk : Hid (∀ (W' : World) b' T' n', RInv w w4.heap.size w5.heap.size X (.slice (some ⟨q, off, none⟩) m5 c5) (cutA A) m5 (k + 1) W' b' T' n' → W'.cell? ⟨q, off + k * 3, none⟩ = some (.int .i64 p0) ∧ W'.cell? ⟨q, off + k * 3 + 1, none⟩ = some (.int .i64 p1) ∧ W'.cell? ⟨q, off + k * 3 + 2, none⟩ = some (.string p2)) := Lib.hid (fun W' b' T' n' hI' => by
        obtain ⟨_, _, e6, _, hcs'⟩ := hI'.2.2.2.2.1
        obtain ⟨q', off', e7, _, _, hcc'⟩ := hcs' (by omega)
        cases e6
        cases e7
        rw [hp0, hp1, hp2]
        exact hcc' k hlt)
      have HEA := Lib.hid (HACw.out ((wr.alloc (.cells #[.int .i64 0, .int .i64 0, .int .i64 0] 33)).drew) ((Below.refl _ _).alloc (Nat.le_refl _) _).drew)
      have HRPa := Lib.hid (HRP.out wr.drew)
      have HRPb := Lib.hid (HRP.out ((wr.alloc (.cells #[.int .i64 0, .int .i64 0, .int .i64 0] 33)).drew))
      have HPS := Lib.hid hps
      have HSZ := Lib.hid (And.intro hsz6 (And.intro hbhi (And.intro (show w.heap.size ≤ wr.heap.size from HI.out.2.2.1.size) hXr)))
      clear hcc hcs hI hp0 hp1 hp2 hXr hsz6 hbhi hblo HRP hps
      go_wp2_with fail
      go_region_held_law (fun w' => w'.cell? ⟨q, off + k * 3, none⟩ = some (.int .i64 p0) ∧ w'.cell? ⟨q, off + k * 3 + 1, none⟩ = some (.int .i64 p1) ∧ w'.cell? ⟨q, off + k * 3 + 2, none⟩ = some (.string p2))
        (first | exact HS7.out | exact HS8.out | exact HEA.out | exact ⟨e1, e2, e3⟩ | go_keep)
        (first
          | (go_at_call 14; (with_reducible refine HRPa.out.mono ?_); rintro e w7 ⟨F, O, N, E, T7, rfl, htd, hb7⟩
             have HTD := Lib.hid htd
             have HB7 : Hid (Below wr.heap.size wr w7) := Lib.hid ((Below.refl wr.heap.size wr).drew.trans hb7)
             have HS7 := Lib.hid (HACw.out w7 HB7.out)
             have HS8 := Lib.hid (HACw.out (w7.alloc (.cells #[.int .i64 (F : Int), .int .i64 (O : Int), .int .i64 (N : Int)] 33)) (HB7.out.alloc HB7.out.size _))
             clear htd hb7)
          | (go_at_call 14; (with_reducible refine HRPb.out.mono ?_); rintro e w7 ⟨F, O, N, E, T7, rfl, htd, hb7⟩
             have HTD := Lib.hid htd
             have HB7 : Hid (Below wr.heap.size wr w7) := Lib.hid (((Below.refl wr.heap.size wr).alloc (Nat.le_refl _) _).drew.trans (hb7.mono (by show wr.heap.size ≤ (wr.alloc _).heap.size; rw [World.size_alloc]; omega)))
             have hr7 : Row w7 wr.heap.size 33 #[.int .i64 0, .int .i64 0, .int .i64 0] := ((Row.new wr 33 #[.int .i64 0, .int .i64 0, .int .i64 0]).drew).below hb7 (by show wr.heap.size < (wr.alloc _).heap.size; rw [World.size_alloc]; omega)
             have HS7 := Lib.hid (HACw.out w7 HB7.out)
             have HS8 := Lib.hid (HACw.out (((w7.setCell ⟨wr.heap.size, 0, none⟩ (.int .i64 (F : Int))).setCell ⟨wr.heap.size, 1, none⟩ (.int .i64 (O : Int))).setCell ⟨wr.heap.size, 2, none⟩ (.int .i64 (N : Int))) (((HB7.out.setCell (Nat.le_refl _) _).setCell (Nat.le_refl _) _).setCell (Nat.le_refl _) _))
             have d0 := hr7.cell 0
             have d1 := hr7.cell 1
             have d2 := hr7.cell 2
             have g0 := hr7.frozen 0
             have g1 := hr7.frozen 1
             have g2 := hr7.frozen 2
             simp only [List.getElem?_toArray, List.getElem?_cons_zero, List.getElem?_cons_succ] at d0 d1 d2
             have HR7 := Lib.hid hr7
             clear htd hb7 hr7))
      · obtain ⟨W2, hW2⟩ : ∃ W2, W2 = w7.alloc (.cells #[.int .i64 (F : Int), .int .i64 (O : Int), .int .i64 (N : Int)] 33) := ⟨_, rfl⟩
        obtain ⟨rr, hrr⟩ : ∃ r, r = w7.heap.size := ⟨_, rfl⟩
        have hR2 : Row W2 rr 33 #[.int .i64 (F : Int), .int .i64 (O : Int), .int .i64 (N : Int)] := by rw [hW2, hrr]; exact Row.new _ _ _
        have hb2 : Below wr.heap.size wr W2 := by rw [hW2]; exact HB7.out.alloc HB7.out.size _
        have hrl : wr.heap.size ≤ rr := by rw [hrr]; exact HB7.out.size
        rw [← hW2, ← hrr]
        clear hW2 hrr HS7 HS8 HB7
        have hI2 := HI.out.still hb2
        obtain ⟨s0, s1, s2⟩ := HACw.out W2 hb2
        have hs2 := hb2.size
        have hrW := hR2.lt
        have HPQ := HPS.out
        have hz := HSZ.out
        obtain ⟨W0, hW0⟩ : ∃ W0, W0 = (W2.alloc (.cells #[.int .i64 0, .int .i64 0, .int .i64 0] 33)).drew := ⟨_, rfl⟩
        have hb0 : Below W2.heap.size W2 W0 := by rw [hW0]; exact ((Below.refl _ _).alloc (Nat.le_refl _) _).drew
        have hr0 : Row W0 W2.heap.size 33 #[.int .i64 0, .int .i64 0, .int .i64 0] := by rw [hW0]; exact (Row.new _ _ _).drew
        have hq0 : Row W0 rr 33 #[.int .i64 (F : Int), .int .i64 (O : Int), .int .i64 (N : Int)] := hR2.below hb0 hrW
        have hqa : Row W2.drew rr 33 #[.int .i64 (F : Int), .int .i64 (O : Int), .int .i64 (N : Int)] := hR2.drew
        have hIa := hI2.still (Below.refl W2.heap.size W2).drew
        have hIb := hI2.still hb0
        have hrX : rr ≠ X ∧ rr ≠ b6 ∧ W2.heap.size ≠ X ∧ W2.heap.size ≠ b6 := ⟨by omega, by omega, by omega, by omega⟩
        have HSPa := Lib.hid (splice_any w.heap.size W2.drew (hIa.rg HG.out) X b6 T6 n6 (by omega) hIa.1 p0 p1 p2)
        have HSPb := Lib.hid (splice_any w.heap.size W0 (hIb.rg HG.out) X b6 T6 n6 (by omega) hIb.1 p0 p1 p2)
        have HTa := Lib.hid (fun (W' : World) (F' O' N' : Nat) (E' : Int) (hsp : SpAny W2.drew w.heap.size X b6 T6 n6 p0 p1 p2.data.toList F' O' N' E' W') => And.intro (RInv_told hIa (by rw [← Lib.size_eq]; exact HPQ) hsp) (And.intro (hsp.row hqa hrX.1 hrX.2.1) (show W2.heap.size ≤ W'.heap.size from hsp.size)))
        have HTb := Lib.hid (fun (W' : World) (F' O' N' : Nat) (E' : Int) (hsp : SpAny W0 w.heap.size X b6 T6 n6 p0 p1 p2.data.toList F' O' N' E' W') => And.intro (RInv_told hIb (by rw [← Lib.size_eq]; exact HPQ) hsp) (And.intro (hsp.row hq0 hrX.1 hrX.2.1) (And.intro (Nat.le_trans hb0.size hsp.size) (hsp.row hr0 hrX.2.2.1 hrX.2.2.2))))
        have HEB := Lib.hid (HACw.out W0 (hb2.trans (hb0.mono hs2)))
        rw [hW0] at HSPb HTb HEB
        have HZ2 := Lib.hid (And.intro (show w5.heap.size ≤ W2.heap.size by omega) (And.intro (show w.heap.size ≤ W2.heap.size by omega) (show rr < W2.heap.size from hrW)))
        clear hI2 hIa hIb hb0 hr0 hq0 hqa hW0 hrX hz HPQ hb2 hrl hs2 hR2 hrW
        go_wp2_with fail
        go_region_held_law (fun w' => w'.cell? ⟨q, off + k * 3, none⟩ = some (.int .i64 p0) ∧ w'.cell? ⟨q, off + k * 3 + 1, none⟩ = some (.int .i64 p1) ∧ w'.cell? ⟨q, off + k * 3 + 2, none⟩ = some (.string p2))
          (first | exact HS7.out | exact HS8.out | exact HEB.out | exact ⟨s0, s1, s2⟩ | go_keep)
          (first
            | (go_at_call 15; (with_reducible refine HSPa.out.mono ?_); rintro e w8 ⟨F', O', N', E', rfl, hsp⟩
               obtain ⟨⟨b7, T8, hI7, ht7, hn7⟩, hq7, hs7⟩ := HTa.out w8 F' O' N' E' hsp
               have HI7 := Lib.hid hI7
               have HT7 := Lib.hid (And.intro ht7 hn7)
               have HQ7 := Lib.hid (And.intro hq7 hs7)
               have HS7 := Lib.hid (HACk.out w8 _ _ _ hI7)
               have HS8 := Lib.hid (HACk.out (w8.alloc (.cells #[.int .i64 (F' : Int), .int .i64 (O' : Int), .int .i64 (N' : Int)] 33)) _ _ _ (hI7.still ((Below.refl _ _).alloc (Nat.le_refl _) _)))
               clear hI7 ht7 hsp hn7 hq7 hs7)
            | (go_at_call 15; (with_reducible refine HSPb.out.mono ?_); rintro e w8 ⟨F', O', N', E', rfl, hsp⟩
               obtain ⟨⟨b7, T8, hI7, ht7, hn7⟩, hq7, hs7, hr7⟩ := HTb.out w8 F' O' N' E' hsp
               have HI7 := Lib.hid hI7
               have HT7 := Lib.hid (And.intro ht7 hn7)
               have HQ7 := Lib.hid (And.intro hq7 hs7)
               have HS7 := Lib.hid (HACk.out w8 _ _ _ hI7)
               have HS8 := Lib.hid (HACk.out _ _ _ _ (hI7.chg (Off.set3 W2.heap.size w8 (.int .i64 (F' : Int)) (.int .i64 (O' : Int)) (.int .i64 (N' : Int))) hr7 HZ2.out.1 HZ2.out.2.1))
               have d0 := hr7.cell 0
               have d1 := hr7.cell 1
               have d2 := hr7.cell 2
               have g0 := hr7.frozen 0
               have g1 := hr7.frozen 1
               have g2 := hr7.frozen 2
               simp only [List.getElem?_toArray, List.getElem?_cons_zero, List.getElem?_cons_succ] at d0 d1 d2
               have HR7 := Lib.hid hr7
               clear hI7 ht7 hsp hn7 hq7 hs7 hr7))
        · obtain ⟨W3, hW3⟩ : ∃ W2, W2 = w8.alloc (.cells #[.int .i64 (F' : Int), .int .i64 (O' : Int), .int .i64 (N' : Int)] 33) := ⟨_, rfl⟩
          obtain ⟨r2, hr2⟩ : ∃ r, r = w8.heap.size := ⟨_, rfl⟩
          have hR3 : Row W3 r2 33 #[.int .i64 (F' : Int), .int .i64 (O' : Int), .int .i64 (N' : Int)] := by rw [hW3, hr2]; exact Row.new _ _ _
          have hR2 : Row W3 rr 33 #[.int .i64 (F : Int), .int .i64 (O : Int), .int .i64 (N : Int)] := by rw [hW3]; exact HQ7.out.1.alloc _
          have hI3 := HI7.out.still ((Below.refl _ _).alloc (Nat.le_refl _) (.cells #[.int .i64 (F' : Int), .int .i64 (O' : Int), .int .i64 (N' : Int)] 33))
          rw [← hW3] at hI3
          rw [← hW3, ← hr2]
          clear hW3 hr2 HS7 HS8
          obtain ⟨hF, hO, hN, hE, hT⟩ := HTD.out.one HT7.out.1
          subst hF hO hN hE hT
          have hn7 := HT7.out.2
          have hsm7 : T7.length ≤ 4000 := hI3.1.small
          have hc7 := count_le T7
          have hsl := splitL_len T7
          obtain ⟨M7, hM7⟩ : ∃ n, n = (splitL T7).length := ⟨_, rfl⟩
          have hM7' : M7 ≤ 4001 := by omega
          have c0 := hR2.cell 0
          have c1 := hR2.cell 1
          have c2 := hR2.cell 2
          have d0 := hR3.cell 0
          have d1 := hR3.cell 1
          have d2 := hR3.cell 2
          simp only [List.getElem?_toArray, List.getElem?_cons_zero, List.getElem?_cons_succ] at c0 c1 c2 d0 d1 d2
          have HF : Hid (∀ W, Below W3.heap.size W3 W → (Calls Tryz.prog 16 #[.pointer (some ⟨X, 0, none⟩)] W fun e W' => e = .returned (.string (bs T7)) ∧ Below W.heap.size W W') ∧ (Calls Tryz.prog 17 #[.pointer (some ⟨X, 0, none⟩)] W fun e W' => e = .returned (.int .i64 ((n6 : Int) + (N : Int))) ∧ W' = W) ∧ (Calls Tryz.prog 18 #[.pointer (some ⟨X, 0, none⟩)] W fun e W' => e = .returned (.int .i64 (M7 : Int)) ∧ W' = W)) := Lib.hid (fun W hb => by
            have hL := (hI3.still hb).1
            have h2 := lexed_c W _ X b7 T7 _ hL
            rw [show ((n6 + N : Nat) : Int) = (n6 : Int) + (N : Int) by omega] at h2
            have h3 := xlines_c W _ X b7 T7 _ hL
            rw [← hM7] at h3
            exact ⟨xtext_c W _ X b7 T7 _ hL, h2, h3⟩)
          have HRL := Lib.hid (fun W => rlines_n W T7 (by omega))
          rw [← hM7] at HRL
          have HI3 := Lib.hid hI3
          obtain ⟨S7, hS7⟩ : ∃ S, S = bs T7 := ⟨_, rfl⟩
          have HS7 := Lib.hid hS7
          rw [← hS7] at HF HRL
          rw [← hS7]
          clear hI3 hM7 hR2 hR3 hS7 hsl hc7 HQ7 HI7 HT7
          go_wp2_with fail
          refine (HF.out W3 (Below.refl _ _)).1.mono ?_
          rintro e w9 ⟨rfl, hb9⟩
          have HB9 := Lib.hid hb9
          clear hb9
          go_wp2_with fail
          refine (HF.out w9 HB9.out).2.1.mono ?_
          rintro e w10 ⟨rfl, hw⟩
          obtain rfl := hw.symm
          clear hw
          go_wp2_with fail
          refine (HF.out w9 HB9.out).2.2.mono ?_
          rintro e w10 ⟨rfl, hw⟩
          obtain rfl := hw.symm
          clear hw
          go_wp2_with fail
          refine (HRL.out w9).mono ?_
          rintro e w11 ⟨⟨g11, c11, rfl⟩, hb11⟩
          have HB11 := Lib.hid (HB9.out.trans (hb11.mono HB9.out.size))
          clear hb11
          go_wp2_with fail
          go_roundw
          case rel => exact ⟨k + 1, by omega, by simp, b7, T7, n6 + N, by rw [HS7.out], by simp, HI3.out.still HB11.out⟩
          case measure => simp [intOf]; omega
        · obtain ⟨W3, hW3⟩ : ∃ W2', W2' = (((w8.setCell ⟨W2.heap.size, 0, none⟩ (.int .i64 (F' : Int))).setCell ⟨W2.heap.size, 1, none⟩ (.int .i64 (O' : Int))).setCell ⟨W2.heap.size, 2, none⟩ (.int .i64 (N' : Int))) := ⟨_, rfl⟩
          have hne : rr ≠ W2.heap.size := by have := HZ2.out.2.2; omega
          have hR3 : Row W3 W2.heap.size 33 #[.int .i64 (F' : Int), .int .i64 (O' : Int), .int .i64 (N' : Int)] := by rw [hW3]; exact tok_set HR7.out _ _ _
          have hR2 : Row W3 rr 33 #[.int .i64 (F : Int), .int .i64 (O : Int), .int .i64 (N : Int)] := by rw [hW3]; exact ((Below.heap_setCell _ _ _ _ hne).trans ((Below.heap_setCell _ _ _ _ hne).trans (Below.heap_setCell _ _ _ _ hne))).trans HQ7.out.1
          obtain ⟨r2, hr2⟩ : ∃ r, r = W2.heap.size := ⟨_, rfl⟩
          have hI3 := HI7.out.chg (Off.set3 W2.heap.size w8 (.int .i64 (F' : Int)) (.int .i64 (O' : Int)) (.int .i64 (N' : Int))) HR7.out HZ2.out.1 HZ2.out.2.1
          rw [← hW3] at hI3
          rw [← hW3, ← hr2]
          rw [← hr2] at hR3
          clear hW3 hr2 hne HS7 HS8 HR7 d0 d1 d2 g0 g1 g2
          obtain ⟨hF, hO, hN, hE, hT⟩ := HTD.out.one HT7.out.1
          subst hF hO hN hE hT
          have hn7 := HT7.out.2
          have hsm7 : T7.length ≤ 4000 := hI3.1.small
          have hc7 := count_le T7
          have hsl := splitL_len T7
          obtain ⟨M7, hM7⟩ : ∃ n, n = (splitL T7).length := ⟨_, rfl⟩
          have hM7' : M7 ≤ 4001 := by omega
          have c0 := hR2.cell 0
          have c1 := hR2.cell 1
          have c2 := hR2.cell 2
          have d0 := hR3.cell 0
          have d1 := hR3.cell 1
          have d2 := hR3.cell 2
          simp only [List.getElem?_toArray, List.getElem?_cons_zero, List.getElem?_cons_succ] at c0 c1 c2 d0 d1 d2
          have HF : Hid (∀ W, Below W3.heap.size W3 W → (Calls Tryz.prog 16 #[.pointer (some ⟨X, 0, none⟩)] W fun e W' => e = .returned (.string (bs T7)) ∧ Below W.heap.size W W') ∧ (Calls Tryz.prog 17 #[.pointer (some ⟨X, 0, none⟩)] W fun e W' => e = .returned (.int .i64 ((n6 : Int) + (N : Int))) ∧ W' = W) ∧ (Calls Tryz.prog 18 #[.pointer (some ⟨X, 0, none⟩)] W fun e W' => e = .returned (.int .i64 (M7 : Int)) ∧ W' = W)) := Lib.hid (fun W hb => by
            have hL := (hI3.still hb).1
            have h2 := lexed_c W _ X b7 T7 _ hL
            rw [show ((n6 + N : Nat) : Int) = (n6 : Int) + (N : Int) by omega] at h2
            have h3 := xlines_c W _ X b7 T7 _ hL
            rw [← hM7] at h3
            exact ⟨xtext_c W _ X b7 T7 _ hL, h2, h3⟩)
          have HRL := Lib.hid (fun W => rlines_n W T7 (by omega))
          rw [← hM7] at HRL
          have HI3 := Lib.hid hI3
          obtain ⟨S7, hS7⟩ : ∃ S, S = bs T7 := ⟨_, rfl⟩
          have HS7 := Lib.hid hS7
          rw [← hS7] at HF HRL
          rw [← hS7]
          clear hI3 hM7 hR2 hR3 hS7 hsl hc7 HQ7 HI7 HT7
          go_wp2_with fail
          refine (HF.out W3 (Below.refl _ _)).1.mono ?_
          rintro e w9 ⟨rfl, hb9⟩
          have HB9 := Lib.hid hb9
          clear hb9
          go_wp2_with fail
          refine (HF.out w9 HB9.out).2.1.mono ?_
          rintro e w10 ⟨rfl, hw⟩
          obtain rfl := hw.symm
          clear hw
          go_wp2_with fail
          refine (HF.out w9 HB9.out).2.2.mono ?_
          rintro e w10 ⟨rfl, hw⟩
          obtain rfl := hw.symm
          clear hw
          go_wp2_with fail
          refine (HRL.out w9).mono ?_
          rintro e w11 ⟨⟨g11, c11, rfl⟩, hb11⟩
          have HB11 := Lib.hid (HB9.out.trans (hb11.mono HB9.out.size))
          clear hb11
          go_wp2_with fail
          go_roundw
          case rel => exact ⟨k + 1, by omega, by simp, b7, T7, n6 + N, by rw [HS7.out], by simp, HI3.out.still HB11.out⟩
          case measure => simp [intOf]; omega
      · obtain ⟨W2, hW2⟩ : ∃ W2, W2 = (((w7.setCell ⟨wr.heap.size, 0, none⟩ (.int .i64 (F : Int))).setCell ⟨wr.heap.size, 1, none⟩ (.int .i64 (O : Int))).setCell ⟨wr.heap.size, 2, none⟩ (.int .i64 (N : Int))) := ⟨_, rfl⟩
        obtain ⟨rr, hrr⟩ : ∃ r, r = wr.heap.size := ⟨_, rfl⟩
        have hR2 : Row W2 rr 33 #[.int .i64 (F : Int), .int .i64 (O : Int), .int .i64 (N : Int)] := by rw [hW2, hrr]; exact tok_set HR7.out _ _ _
        have hb2 : Below wr.heap.size wr W2 := by rw [hW2]; exact ((HB7.out.setCell (Nat.le_refl _) _).setCell (Nat.le_refl _) _).setCell (Nat.le_refl _) _
        have hrl : wr.heap.size ≤ rr := by omega
        rw [← hW2, ← hrr]
        clear hW2 hrr HS7 HS8 HB7 HR7 d0 d1 d2 g0 g1 g2
        have hI2 := HI.out.still hb2
        obtain ⟨s0, s1, s2⟩ := HACw.out W2 hb2
        have hs2 := hb2.size
        have hrW := hR2.lt
        have HPQ := HPS.out
        have hz := HSZ.out
        obtain ⟨W0, hW0⟩ : ∃ W0, W0 = (W2.alloc (.cells #[.int .i64 0, .int .i64 0, .int .i64 0] 33)).drew := ⟨_, rfl⟩
        have hb0 : Below W2.heap.size W2 W0 := by rw [hW0]; exact ((Below.refl _ _).alloc (Nat.le_refl _) _).drew
        have hr0 : Row W0 W2.heap.size 33 #[.int .i64 0, .int .i64 0, .int .i64 0] := by rw [hW0]; exact (Row.new _ _ _).drew
        have hq0 : Row W0 rr 33 #[.int .i64 (F : Int), .int .i64 (O : Int), .int .i64 (N : Int)] := hR2.below hb0 hrW
        have hqa : Row W2.drew rr 33 #[.int .i64 (F : Int), .int .i64 (O : Int), .int .i64 (N : Int)] := hR2.drew
        have hIa := hI2.still (Below.refl W2.heap.size W2).drew
        have hIb := hI2.still hb0
        have hrX : rr ≠ X ∧ rr ≠ b6 ∧ W2.heap.size ≠ X ∧ W2.heap.size ≠ b6 := ⟨by omega, by omega, by omega, by omega⟩
        have HSPa := Lib.hid (splice_any w.heap.size W2.drew (hIa.rg HG.out) X b6 T6 n6 (by omega) hIa.1 p0 p1 p2)
        have HSPb := Lib.hid (splice_any w.heap.size W0 (hIb.rg HG.out) X b6 T6 n6 (by omega) hIb.1 p0 p1 p2)
        have HTa := Lib.hid (fun (W' : World) (F' O' N' : Nat) (E' : Int) (hsp : SpAny W2.drew w.heap.size X b6 T6 n6 p0 p1 p2.data.toList F' O' N' E' W') => And.intro (RInv_told hIa (by rw [← Lib.size_eq]; exact HPQ) hsp) (And.intro (hsp.row hqa hrX.1 hrX.2.1) (show W2.heap.size ≤ W'.heap.size from hsp.size)))
        have HTb := Lib.hid (fun (W' : World) (F' O' N' : Nat) (E' : Int) (hsp : SpAny W0 w.heap.size X b6 T6 n6 p0 p1 p2.data.toList F' O' N' E' W') => And.intro (RInv_told hIb (by rw [← Lib.size_eq]; exact HPQ) hsp) (And.intro (hsp.row hq0 hrX.1 hrX.2.1) (And.intro (Nat.le_trans hb0.size hsp.size) (hsp.row hr0 hrX.2.2.1 hrX.2.2.2))))
        have HEB := Lib.hid (HACw.out W0 (hb2.trans (hb0.mono hs2)))
        rw [hW0] at HSPb HTb HEB
        have HZ2 := Lib.hid (And.intro (show w5.heap.size ≤ W2.heap.size by omega) (And.intro (show w.heap.size ≤ W2.heap.size by omega) (show rr < W2.heap.size from hrW)))
        clear hI2 hIa hIb hb0 hr0 hq0 hqa hW0 hrX hz HPQ hb2 hrl hs2 hR2 hrW
        go_wp2_with fail
        go_region_held_law (fun w' => w'.cell? ⟨q, off + k * 3, none⟩ = some (.int .i64 p0) ∧ w'.cell? ⟨q, off + k * 3 + 1, none⟩ = some (.int .i64 p1) ∧ w'.cell? ⟨q, off + k * 3 + 2, none⟩ = some (.string p2))
          (first | exact HS7.out | exact HS8.out | exact HEB.out | exact ⟨s0, s1, s2⟩ | go_keep)
          (first
            | (go_at_call 15; (with_reducible refine HSPa.out.mono ?_); rintro e w8 ⟨F', O', N', E', rfl, hsp⟩
               obtain ⟨⟨b7, T8, hI7, ht7, hn7⟩, hq7, hs7⟩ := HTa.out w8 F' O' N' E' hsp
               have HI7 := Lib.hid hI7
               have HT7 := Lib.hid (And.intro ht7 hn7)
               have HQ7 := Lib.hid (And.intro hq7 hs7)
               have HS7 := Lib.hid (HACk.out w8 _ _ _ hI7)
               have HS8 := Lib.hid (HACk.out (w8.alloc (.cells #[.int .i64 (F' : Int), .int .i64 (O' : Int), .int .i64 (N' : Int)] 33)) _ _ _ (hI7.still ((Below.refl _ _).alloc (Nat.le_refl _) _)))
               clear hI7 ht7 hsp hn7 hq7 hs7)
            | (go_at_call 15; (with_reducible refine HSPb.out.mono ?_); rintro e w8 ⟨F', O', N', E', rfl, hsp⟩
               obtain ⟨⟨b7, T8, hI7, ht7, hn7⟩, hq7, hs7, hr7⟩ := HTb.out w8 F' O' N' E' hsp
               have HI7 := Lib.hid hI7
               have HT7 := Lib.hid (And.intro ht7 hn7)
               have HQ7 := Lib.hid (And.intro hq7 hs7)
               have HS7 := Lib.hid (HACk.out w8 _ _ _ hI7)
               have HS8 := Lib.hid (HACk.out _ _ _ _ (hI7.chg (Off.set3 W2.heap.size w8 (.int .i64 (F' : Int)) (.int .i64 (O' : Int)) (.int .i64 (N' : Int))) hr7 HZ2.out.1 HZ2.out.2.1))
               have d0 := hr7.cell 0
               have d1 := hr7.cell 1
               have d2 := hr7.cell 2
               have g0 := hr7.frozen 0
               have g1 := hr7.frozen 1
               have g2 := hr7.frozen 2
               simp only [List.getElem?_toArray, List.getElem?_cons_zero, List.getElem?_cons_succ] at d0 d1 d2
               have HR7 := Lib.hid hr7
               clear hI7 ht7 hsp hn7 hq7 hs7 hr7))
        · obtain ⟨W3, hW3⟩ : ∃ W2, W2 = w8.alloc (.cells #[.int .i64 (F' : Int), .int .i64 (O' : Int), .int .i64 (N' : Int)] 33) := ⟨_, rfl⟩
          obtain ⟨r2, hr2⟩ : ∃ r, r = w8.heap.size := ⟨_, rfl⟩
          have hR3 : Row W3 r2 33 #[.int .i64 (F' : Int), .int .i64 (O' : Int), .int .i64 (N' : Int)] := by rw [hW3, hr2]; exact Row.new _ _ _
          have hR2 : Row W3 rr 33 #[.int .i64 (F : Int), .int .i64 (O : Int), .int .i64 (N : Int)] := by rw [hW3]; exact HQ7.out.1.alloc _
          have hI3 := HI7.out.still ((Below.refl _ _).alloc (Nat.le_refl _) (.cells #[.int .i64 (F' : Int), .int .i64 (O' : Int), .int .i64 (N' : Int)] 33))
          rw [← hW3] at hI3
          rw [← hW3, ← hr2]
          clear hW3 hr2 HS7 HS8
          obtain ⟨hF, hO, hN, hE, hT⟩ := HTD.out.one HT7.out.1
          subst hF hO hN hE hT
          have hn7 := HT7.out.2
          have hsm7 : T7.length ≤ 4000 := hI3.1.small
          have hc7 := count_le T7
          have hsl := splitL_len T7
          obtain ⟨M7, hM7⟩ : ∃ n, n = (splitL T7).length := ⟨_, rfl⟩
          have hM7' : M7 ≤ 4001 := by omega
          have c0 := hR2.cell 0
          have c1 := hR2.cell 1
          have c2 := hR2.cell 2
          have d0 := hR3.cell 0
          have d1 := hR3.cell 1
          have d2 := hR3.cell 2
          simp only [List.getElem?_toArray, List.getElem?_cons_zero, List.getElem?_cons_succ] at c0 c1 c2 d0 d1 d2
          have HF : Hid (∀ W, Below W3.heap.size W3 W → (Calls Tryz.prog 16 #[.pointer (some ⟨X, 0, none⟩)] W fun e W' => e = .returned (.string (bs T7)) ∧ Below W.heap.size W W') ∧ (Calls Tryz.prog 17 #[.pointer (some ⟨X, 0, none⟩)] W fun e W' => e = .returned (.int .i64 ((n6 : Int) + (N : Int))) ∧ W' = W) ∧ (Calls Tryz.prog 18 #[.pointer (some ⟨X, 0, none⟩)] W fun e W' => e = .returned (.int .i64 (M7 : Int)) ∧ W' = W)) := Lib.hid (fun W hb => by
            have hL := (hI3.still hb).1
            have h2 := lexed_c W _ X b7 T7 _ hL
            rw [show ((n6 + N : Nat) : Int) = (n6 : Int) + (N : Int) by omega] at h2
            have h3 := xlines_c W _ X b7 T7 _ hL
            rw [← hM7] at h3
            exact ⟨xtext_c W _ X b7 T7 _ hL, h2, h3⟩)
          have HRL := Lib.hid (fun W => rlines_n W T7 (by omega))
          rw [← hM7] at HRL
          have HI3 := Lib.hid hI3
          obtain ⟨S7, hS7⟩ : ∃ S, S = bs T7 := ⟨_, rfl⟩
          have HS7 := Lib.hid hS7
          rw [← hS7] at HF HRL
          rw [← hS7]
          clear hI3 hM7 hR2 hR3 hS7 hsl hc7 HQ7 HI7 HT7
          go_wp2_with fail
          refine (HF.out W3 (Below.refl _ _)).1.mono ?_
          rintro e w9 ⟨rfl, hb9⟩
          have HB9 := Lib.hid hb9
          clear hb9
          go_wp2_with fail
          refine (HF.out w9 HB9.out).2.1.mono ?_
          rintro e w10 ⟨rfl, hw⟩
          obtain rfl := hw.symm
          clear hw
          go_wp2_with fail
          refine (HF.out w9 HB9.out).2.2.mono ?_
          rintro e w10 ⟨rfl, hw⟩
          obtain rfl := hw.symm
          clear hw
          go_wp2_with fail
          refine (HRL.out w9).mono ?_
          rintro e w11 ⟨⟨g11, c11, rfl⟩, hb11⟩
          have HB11 := Lib.hid (HB9.out.trans (hb11.mono HB9.out.size))
          clear hb11
          go_wp2_with fail
          go_roundw
          case rel => exact ⟨k + 1, by omega, by simp, b7, T7, n6 + N, by rw [HS7.out], by simp, HI3.out.still HB11.out⟩
          case measure => simp [intOf]; omega
        · obtain ⟨W3, hW3⟩ : ∃ W2', W2' = (((w8.setCell ⟨W2.heap.size, 0, none⟩ (.int .i64 (F' : Int))).setCell ⟨W2.heap.size, 1, none⟩ (.int .i64 (O' : Int))).setCell ⟨W2.heap.size, 2, none⟩ (.int .i64 (N' : Int))) := ⟨_, rfl⟩
          have hne : rr ≠ W2.heap.size := by have := HZ2.out.2.2; omega
          have hR3 : Row W3 W2.heap.size 33 #[.int .i64 (F' : Int), .int .i64 (O' : Int), .int .i64 (N' : Int)] := by rw [hW3]; exact tok_set HR7.out _ _ _
          have hR2 : Row W3 rr 33 #[.int .i64 (F : Int), .int .i64 (O : Int), .int .i64 (N : Int)] := by rw [hW3]; exact ((Below.heap_setCell _ _ _ _ hne).trans ((Below.heap_setCell _ _ _ _ hne).trans (Below.heap_setCell _ _ _ _ hne))).trans HQ7.out.1
          obtain ⟨r2, hr2⟩ : ∃ r, r = W2.heap.size := ⟨_, rfl⟩
          have hI3 := HI7.out.chg (Off.set3 W2.heap.size w8 (.int .i64 (F' : Int)) (.int .i64 (O' : Int)) (.int .i64 (N' : Int))) HR7.out HZ2.out.1 HZ2.out.2.1
          rw [← hW3] at hI3
          rw [← hW3, ← hr2]
          rw [← hr2] at hR3
          clear hW3 hr2 hne HS7 HS8 HR7 d0 d1 d2 g0 g1 g2
          obtain ⟨hF, hO, hN, hE, hT⟩ := HTD.out.one HT7.out.1
          subst hF hO hN hE hT
          have hn7 := HT7.out.2
          have hsm7 : T7.length ≤ 4000 := hI3.1.small
          have hc7 := count_le T7
          have hsl := splitL_len T7
          obtain ⟨M7, hM7⟩ : ∃ n, n = (splitL T7).length := ⟨_, rfl⟩
          have hM7' : M7 ≤ 4001 := by omega
          have c0 := hR2.cell 0
          have c1 := hR2.cell 1
          have c2 := hR2.cell 2
          have d0 := hR3.cell 0
          have d1 := hR3.cell 1
          have d2 := hR3.cell 2
          simp only [List.getElem?_toArray, List.getElem?_cons_zero, List.getElem?_cons_succ] at c0 c1 c2 d0 d1 d2
          have HF : Hid (∀ W, Below W3.heap.size W3 W → (Calls Tryz.prog 16 #[.pointer (some ⟨X, 0, none⟩)] W fun e W' => e = .returned (.string (bs T7)) ∧ Below W.heap.size W W') ∧ (Calls Tryz.prog 17 #[.pointer (some ⟨X, 0, none⟩)] W fun e W' => e = .returned (.int .i64 ((n6 : Int) + (N : Int))) ∧ W' = W) ∧ (Calls Tryz.prog 18 #[.pointer (some ⟨X, 0, none⟩)] W fun e W' => e = .returned (.int .i64 (M7 : Int)) ∧ W' = W)) := Lib.hid (fun W hb => by
            have hL := (hI3.still hb).1
            have h2 := lexed_c W _ X b7 T7 _ hL
            rw [show ((n6 + N : Nat) : Int) = (n6 : Int) + (N : Int) by omega] at h2
            have h3 := xlines_c W _ X b7 T7 _ hL
            rw [← hM7] at h3
            exact ⟨xtext_c W _ X b7 T7 _ hL, h2, h3⟩)
          have HRL := Lib.hid (fun W => rlines_n W T7 (by omega))
          rw [← hM7] at HRL
          have HI3 := Lib.hid hI3
          obtain ⟨S7, hS7⟩ : ∃ S, S = bs T7 := ⟨_, rfl⟩
          have HS7 := Lib.hid hS7
          rw [← hS7] at HF HRL
          rw [← hS7]
          clear hI3 hM7 hR2 hR3 hS7 hsl hc7 HQ7 HI7 HT7
          go_wp2_with fail
          refine (HF.out W3 (Below.refl _ _)).1.mono ?_
          rintro e w9 ⟨rfl, hb9⟩
          have HB9 := Lib.hid hb9
          clear hb9
          go_wp2_with fail
          refine (HF.out w9 HB9.out).2.1.mono ?_
          rintro e w10 ⟨rfl, hw⟩
          obtain rfl := hw.symm
          clear hw
          go_wp2_with fail
          refine (HF.out w9 HB9.out).2.2.mono ?_
          rintro e w10 ⟨rfl, hw⟩
          obtain rfl := hw.symm
          clear hw
          go_wp2_with fail
          refine (HRL.out w9).mono ?_
          rintro e w11 ⟨⟨g11, c11, rfl⟩, hb11⟩
          have HB11 := Lib.hid (HB9.out.trans (hb11.mono HB9.out.size))
          clear hb11
          go_wp2_with fail
          go_roundw
          case rel => exact ⟨k + 1, by omega, by simp, b7, T7, n6 + N, by rw [HS7.out], by simp, HI3.out.still HB11.out⟩
          case measure => simp [intOf]; omega
    · obtain rfl : k = m5 := by omega
      have hsm : T6.length ≤ 4000 := hI.1.small
      have L6 := Lib.hid hI.1
      have B6 := Lib.hid hI.2.2.1
      have hlt := tokT_len hsm
      have HTX := Lib.hid (fun W (hb : Below wr.heap.size wr W) => xtokens_c W _ X b6 T6 n6 (L6.out.below hb))
      have HRT := Lib.hid (fun W => rtokens_c W T6 (by omega))
      have HTL := Lib.hid (fun (W : World) (base : Nat) (u : Value) (ho : Go.Proofs.YtdgffpcbpilkcaaGreatDoor.OwnL W base u (tokT T6)) => OwnL.tlT hsm ho)
      have HLI := Lib.hid (fun W (hb : Below wr.heap.size wr W) => xline_c W _ X b6 T6 n6 (L6.out.below hb) i)
      by_cases hr : 0 ≤ i ∧ i < ((splitL T6).length : Int)
      · obtain ⟨j, rfl⟩ : ∃ j : Nat, i = j := ⟨i.toNat, by omega⟩
        obtain ⟨y, hy⟩ : ∃ y, (splitL T6)[j]? = some y := ⟨_, List.getElem?_eq_getElem (by omega)⟩
        have hyl := line_len hy
        have hlin : linT T6 (j : Int) = toks st y 0 := by
          unfold linT
          rw [if_pos hr, Int.toNat_natCast, List.getD_eq_getElem?_getD, hy]
          rfl
        rw [hlin] at HLI
        have hyk := toks_len st st_ok y.length y (Nat.le_refl _)
        have HYL : Hid ((toks st y 0).length ≤ maxLen) := Lib.hid (by unfold maxLen; omega)
        have HRI := Lib.hid (fun W => rline_in W T6 (by omega) j y hy)
        have HRY := Lib.hid (fun W => rline_toks W y (by omega))
        obtain ⟨S6, hS6⟩ : ∃ S, S = bs T6 := ⟨_, rfl⟩
        obtain ⟨U, hU⟩ : ∃ S, S = bs y := ⟨_, rfl⟩
        rw [← hS6] at HRT HRI
        rw [← hU] at HRI HRY
        rw [← hS6]
        clear hI hr hlin hyk hS6 hU hy hyl hsm
        go_wp2_with fail
        refine (HRI.out wr).mono ?_
        rintro e w7 ⟨rfl, hb7⟩
        have HB7 := Lib.hid hb7
        clear hb7
        go_wp2_with fail
        refine (HLI.out w7 HB7.out).mono ?_
        rintro e w8 ⟨v8, rfl, ho8, hb8⟩
        have HB8 := Lib.hid (HB7.out.trans (hb8.mono HB7.out.size))
        have hv8 := Go.Proofs.YtdgffpcbpilkcaaGreatDoor.OwnL.tl HYL.out ho8
        obtain ⟨a8, l8, c8, rfl⟩ := own_sl ho8
        have HV8 := Lib.hid hv8
        clear ho8 hb8 hv8
        go_wp2_with fail
        refine (HRY.out w8).mono ?_
        rintro e w9 ⟨v9, rfl, ho9, hb9⟩
        have HB9 := Lib.hid (HB8.out.trans (hb9.mono HB8.out.size))
        have HV8' := Lib.hid (HV8.out.below hb9)
        have HV9 := Lib.hid (Go.Proofs.YtdgffpcbpilkcaaGreatDoor.OwnL.tl HYL.out ho9)
        clear ho9 hb9
        go_wp2_with fail
        refine (rsame_c _ v9 _ _ w9 HV8'.out HV9.out).mono ?_
        rintro e w10 ⟨rfl, hb10⟩
        have HB10 := Lib.hid (HB9.out.trans (hb10.mono HB9.out.size))
        have hdec : decide (toks st y 0 = toks st y 0) = true := by simp
        rw [hdec]
        clear hb10 hdec
        go_wp2_with fail
        refine (HTX.out w10 HB10.out).mono ?_
        rintro e w11 ⟨v11, rfl, ho11, hb11⟩
        have HB11 := Lib.hid (HB10.out.trans (hb11.mono HB10.out.size))
        have HV11 := Lib.hid (HTL.out _ _ _ ho11)
        clear ho11 hb11
        go_wp2_with fail
        refine (HRT.out w11).mono ?_
        rintro e w12 ⟨v12, rfl, ho12, hb12⟩
        have HB12 := Lib.hid (HB11.out.trans (hb12.mono HB11.out.size))
        have HV12 := Lib.hid (HV11.out.below hb12)
        have HU12 := Lib.hid (HTL.out _ _ _ ho12)
        clear ho12 hb12
        go_wp2_with fail
        refine (rsame_c v11 v12 _ _ w12 HV12.out HU12.out).mono ?_
        rintro e w13 ⟨rfl, hb13⟩
        have HB13 := Lib.hid (HB12.out.trans (hb13.mono HB12.out.size))
        have hdec : decide (tokT T6 = tokT T6) = true := by simp
        rw [hdec]
        clear hb13 hdec
        go_wp2_with fail
        go_ret
        exact ⟨by simp, B6.out.trans (HB13.out.mono B6.out.size)⟩
      · have hlin : linT T6 i = [] := by
          unfold linT
          rw [if_neg hr]
        rw [hlin] at HLI
        have HRO := Lib.hid (fun W => rline_out W T6 (by omega) i hr)
        obtain ⟨S6, hS6⟩ : ∃ S, S = bs T6 := ⟨_, rfl⟩
        rw [← hS6] at HRT HRO
        rw [← hS6]
        clear hI hr hlin hS6 hsm
        go_wp2_with fail
        refine (HRO.out wr).mono ?_
        rintro e w7 ⟨rfl, hb7⟩
        have HB7 := Lib.hid hb7
        clear hb7
        go_wp2_with fail
        refine (HLI.out w7 HB7.out).mono ?_
        rintro e w8 ⟨v8, rfl, ho8, hb8⟩
        have HB8 := Lib.hid (HB7.out.trans (hb8.mono HB7.out.size))
        obtain ⟨a8, l8, c8, rfl⟩ := own_sl ho8
        obtain rfl : l8 = 0 := by
          rcases ho8.2 with ⟨e, _⟩ | ⟨g', cap', cur, e, _⟩
          · cases e; rfl
          · cases e; rfl
        clear ho8 hb8
        go_wp2_with fail
        refine (HTX.out w8 HB8.out).mono ?_
        rintro e w11 ⟨v11, rfl, ho11, hb11⟩
        have HB11 := Lib.hid (HB8.out.trans (hb11.mono HB8.out.size))
        have HV11 := Lib.hid (HTL.out _ _ _ ho11)
        clear ho11 hb11
        go_wp2_with fail
        refine (HRT.out w11).mono ?_
        rintro e w12 ⟨v12, rfl, ho12, hb12⟩
        have HB12 := Lib.hid (HB11.out.trans (hb12.mono HB11.out.size))
        have HV12 := Lib.hid (HV11.out.below hb12)
        have HU12 := Lib.hid (HTL.out _ _ _ ho12)
        clear ho12 hb12
        go_wp2_with fail
        refine (rsame_c v11 v12 _ _ w12 HV12.out HU12.out).mono ?_
        rintro e w13 ⟨rfl, hb13⟩
        have HB13 := Lib.hid (HB12.out.trans (hb13.mono HB12.out.size))
        have hdec : decide (tokT T6 = tokT T6) = true := by simp
        rw [hdec]
        clear hb13 hdec
        go_wp2_with fail
        go_ret
        exact ⟨by simp, B6.out.trans (HB13.out.mono B6.out.size)⟩
theorem rspl_true (w : World) (hG : RG w.heap.size w) (x : ByteArray) (_ : x.size ≤ maxLen) (v : Value) (A : Nat → Int × Int × ByteArray) (len : Nat) (hA : ActsIn 0 w.heap.size w v A len) (i : Int) :
    Calls Tryz.prog 3 #[.string x, v, .int .i64 i] w fun e W' => e = .returned (.bool true) ∧ Below w.heap.size w W' := by
  by_cases h : (cut x).size ≤ 4000
  · exact rspl_ok w hG x v A len hA i h
  · exact rspl_full w hG x v i (by omega)
end Rs
end Go.Proofs.YtdgffpcbpilkcaaGreatDoor
