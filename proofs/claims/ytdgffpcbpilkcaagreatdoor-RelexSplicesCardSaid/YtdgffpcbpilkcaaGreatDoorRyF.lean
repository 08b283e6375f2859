/- A text's first four thousand and ten bytes. Some splices in memory, and the first few of them. Splices one behind the other. -/
import Derived.Test.YtdgffpcbpilkcaaGreatDoorRyA
import Derived.WalkKit
import Derived.Outline
import Derived.Deep.RegionHeldLaw
import Derived.Deep.AppendLies
import Derived.Test.YtdgffpcbpilkcaaGreatDoorRyE
/- A text's first four thousand and ten bytes. -/
namespace Go.Proofs.YtdgffpcbpilkcaaGreatDoor
open Go Go.RowKit
/-- The first four thousand and ten bytes. -/
def cut (s : ByteArray) : ByteArray := s.extract 0 4010
theorem ext_data (s : ByteArray) (i j : Nat) : (s.extract i j).data.toList = (s.data.toList.drop i).take (j - i) := by
  simp [ByteArray.data_extract, Array.toList_extract, List.extract]
theorem cut_size (s : ByteArray) : (cut s).size ≤ 4010 := by
  rw [Lib.size_eq, cut, ext_data, List.length_take]
  omega

set_option maxRecDepth 100000 in
theorem cut_any (w : World) (s : ByteArray) :
    Calls Tryz.prog 10 #[.string s] w fun e W' => e = .returned (.string (cut s)) ∧ w = W' := by
  by_cases h : s.size ≤ 4010
  · have t1 : min (s.size : Int) 4010 = (s.size : Int) := by omega
    have e0 : cut s = s := by
      have h1 : s.data.toList.length ≤ 4010 := by rw [← Lib.size_eq]; exact h
      apply ByteArray.ext
      apply Array.ext'
      rw [cut, ext_data, List.drop_zero, List.take_of_length_le h1]
    rw [e0]
    go_enter Tryz.func10, Tryz.ntmps10
    go_wp2
    go_ret
    exact ⟨rfl, rfl⟩
  · have t1 : min (s.size : Int) 4010 = 4010 := by omega
    go_enter Tryz.func10, Tryz.ntmps10
    go_wp2
    go_ret
    exact ⟨rfl, rfl⟩
end Go.Proofs.YtdgffpcbpilkcaaGreatDoor

/- Some splices in memory, and the first few of them. -/
namespace Go.Proofs.YtdgffpcbpilkcaaGreatDoor
open Go Go.RowKit

/-- One splice's cells. -/
def acCells (x : Int × Int × ByteArray) : List Value := [.int .i64 x.1, .int .i64 x.2.1, .string x.2.2]
/-- The first k splices' cells. -/
def flat (A : Nat → Int × Int × ByteArray) (k : Nat) : List Value := (List.range k).flatMap fun j => acCells (A j)
theorem flat_succ (A : Nat → Int × Int × ByteArray) (k : Nat) : flat A (k + 1) = flat A k ++ acCells (A k) := by
  simp [flat, List.range_succ]
theorem flat_len (A : Nat → Int × Int × ByteArray) : ∀ k, (flat A k).length = k * 3
  | 0 => rfl
  | k + 1 => by rw [flat_succ, List.length_append, flat_len A k]; simp [acCells]; omega
theorem flat_get (A : Nat → Int × Int × ByteArray) : ∀ k j i, j < k → i < 3 → (flat A k)[j * 3 + i]? = (acCells (A j))[i]?
  | 0, _, _, h, _ => by omega
  | k + 1, j, i, h, hi => by
    rw [flat_succ]
    by_cases hjk : j < k
    · rw [List.getElem?_append_left (by rw [flat_len]; omega)]
      exact flat_get A k j i hjk hi
    · obtain rfl : j = k := by omega
      rw [List.getElem?_append_right (by rw [flat_len]; omega), flat_len, Nat.add_sub_cancel_left]

/-- The slice value v is len splices, in a block between lo and hi. -/
def ActsIn (lo hi : Nat) (W : World) (v : Value) (A : Nat → Int × Int × ByteArray) (len : Nat) : Prop :=
  ∃ (a0 : Option Addr) (c0 : Nat), v = .slice a0 len c0 ∧ len ≤ maxLen ∧ (0 < len → ∃ b off, a0 = some ⟨b, off, none⟩ ∧ lo ≤ b ∧ b < hi ∧ ∀ j, j < len →
    W.cell? ⟨b, off + j * 3, none⟩ = some (.int .i64 (A j).1) ∧ W.cell? ⟨b, off + j * 3 + 1, none⟩ = some (.int .i64 (A j).2.1) ∧ W.cell? ⟨b, off + j * 3 + 2, none⟩ = some (.string (A j).2.2))
theorem ActsIn.kept {lo hi : Nat} {W W' : World} {v : Value} {A : Nat → Int × Int × ByteArray} {len : Nat} {row : Option Nat} (h : ActsIn lo hi W v A len) (hg : W.grownBy W' row) (hr : ∀ k, row = some k → k < lo) (hh : hi ≤ W.heap.size) : ActsIn lo hi W' v A len := by
  obtain ⟨a0, c0, e, h1, h2⟩ := h
  refine ⟨a0, c0, e, h1, fun h0 => ?_⟩
  obtain ⟨b, off, e1, h3, h4, h5⟩ := h2 h0
  refine ⟨b, off, e1, h3, h4, fun j hj => ?_⟩
  have hb : ∀ o, W'.cell? ⟨b, o, none⟩ = W.cell? ⟨b, o, none⟩ := fun o => World.cell?_of_block (w := W) (hg.block b (by omega) (fun e => by have := hr b e.symm; omega))
  rw [hb, hb, hb]
  exact h5 j hj
theorem ActsIn.below {lo hi n₁ : Nat} {W W' : World} {v : Value} {A : Nat → Int × Int × ByteArray} {len : Nat} (h : ActsIn lo hi W v A len) (hb : Below n₁ W W') (hh : hi ≤ n₁) : ActsIn lo hi W' v A len := by
  obtain ⟨a0, c0, e, h1, h2⟩ := h
  refine ⟨a0, c0, e, h1, fun h0 => ?_⟩
  obtain ⟨b, off, e1, h3, h4, h5⟩ := h2 h0
  refine ⟨b, off, e1, h3, h4, fun j hj => ?_⟩
  have hb : ∀ o, W'.cell? ⟨b, o, none⟩ = W.cell? ⟨b, o, none⟩ := fun o => hb.cell (p := ⟨b, o, none⟩) (by dsimp only; omega)
  rw [hb, hb, hb]
  exact h5 j hj
theorem ActsIn.wider {lo hi hi' : Nat} {W : World} {v : Value} {A : Nat → Int × Int × ByteArray} {len : Nat} (h : ActsIn lo hi W v A len) (hh : hi ≤ hi') : ActsIn lo hi' W v A len := by
  obtain ⟨a0, c0, e, h1, h2⟩ := h
  refine ⟨a0, c0, e, h1, fun h0 => ?_⟩
  obtain ⟨b, off, e1, h3, h4, h5⟩ := h2 h0
  exact ⟨b, off, e1, h3, by omega, h5⟩

/-- The splices' texts cut. -/
def cutA (A : Nat → Int × Int × ByteArray) : Nat → Int × Int × ByteArray := fun j => ((A j).1, (A j).2.1, cut (A j).2.2)

theorem Tryz.infoAct : (Tryz.prog.info? 37).map (fun i => (i.zero, i.size, i.bytes)) = some (some (.agg #[.int .i64 0, .int .i64 0, .string ⟨#[]⟩]), 3, 32) := by kernel_rfl

/-- Behind the append a far cell is as it was. -/
theorem far_cell {wr w1 : World} {o : Obj} {row : Option Nat} (hg : (wr.drew.alloc o).grownBy w1 row) {b : Nat} (hlt : b < wr.heap.size) (hne : some b ≠ row) (off : Nat) (x : Value) (hc : wr.cell? ⟨b, off, none⟩ = some x) : w1.cell? ⟨b, off, none⟩ = some x := by
  refine (hg.cell_far ⟨b, off, none⟩ (by simp; exact Nat.lt_succ_of_lt hlt) hne).trans (Eq.trans ?_ hc)
  exact World.cell?_of_block (w := wr) (Below.heap_alloc wr.drew o b hlt)

theorem few_end {W : World} {base : Nat} {v : Value} {A : Nat → Int × Int × ByteArray} {k : Nat} (hk : k ≤ maxLen) (h : W.ownsRow base 37 3 v k (flat A k)) : ActsIn base W.heap.size W v A k := by
  have hlt := h.lt
  rcases h.2 with ⟨e, h0⟩ | ⟨g, cap, cur, hv, hg, hh, h1, h2, h3, h4⟩
  · exact ⟨none, 0, by rw [e, h0], hk, fun h => by omega⟩
  · subst hv
    have hg2 := hlt g rfl
    refine ⟨_, cap, rfl, hk, fun _ => ⟨g, 0, rfl, hg2.1, hg2.2, fun j hj => ?_⟩⟩
    have key : ∀ i, i < 3 → W.cell? ⟨g, j * 3 + i, none⟩ = (acCells (A j))[i]? := fun i hi => by
      rw [h.cellAt (j * 3 + i) (by omega)]
      exact flat_get A k j i hj hi
    refine ⟨?_, ?_, ?_⟩
    · rw [Nat.zero_add]; exact key 0 (by omega)
    · rw [Nat.zero_add]; exact key 1 (by omega)
    · rw [Nat.zero_add]; exact key 2 (by omega)

set_option maxHeartbeats 4000000 in
set_option maxRecDepth 100000 in
/-- Few(l, N): the first N of them, cut. -/
theorem few_any (w : World) (v : Value) (A : Nat → Int × Int × ByteArray) (len N : Nat) (hN : N ≤ 40) (h : ActsIn 0 w.heap.size w v A len) :
    Calls Tryz.prog 13 #[v, .int .i64 (N : Int)] w fun e W' => ∃ v', e = .returned v' ∧ ActsIn w.heap.size W'.heap.size W' v' (cutA A) (min len N) ∧ Below w.heap.size w W' := by
  obtain ⟨i0, hi, hz0, hz1, hz2⟩ := info_parts Tryz.infoAct
  obtain ⟨a0, c0, hvv, hlc, hcs⟩ := h
  subst hvv
  unfold maxLen at hlc
  have HC := Lib.hid hcs
  clear hcs
  have hDr : Below w.heap.size w w := Below.refl _ w
  go_enter Tryz.func13, Tryz.ntmps13
  go_wp2
  go_loopw [5, 6] (fun u i wr => ∃ k : Nat, k ≤ len ∧ k ≤ N ∧ i = .int .i64 k ∧ wr.ownsRow w.heap.size 37 3 u k (flat (cutA A) k) ∧ Below w.heap.size w wr ∧ w.heap.size ≤ wr.heap.size)
    (fun _ i _ => N - (intOf i).toNat)
  case atStart => exact ⟨0, Nat.zero_le _, Nat.zero_le _, rfl, World.ownsRow_nil _ _ _ _, hDr, Nat.le_refl _⟩
  case round =>
    obtain ⟨k, hk, hkN, rfl, hown, hB1, hbs⟩ := hrel
    have HO := Lib.hid hown
    have HB := Lib.hid hB1
    clear hown hB1
    by_cases hlt : k < len
    · by_cases hltN : k < N
      · obtain ⟨b, off, rfl, _, hbl, hcc⟩ := HC.out (by omega)
        obtain ⟨cA, cN, cS⟩ := hcc k hlt
        clear hcc
        have e1 : wr.cell? ⟨b, off + k * 3, none⟩ = some (.int .i64 (A k).1) := by rw [HB.out.cell (p := ⟨b, off + k * 3, none⟩) hbl]; exact cA
        have e2 : wr.cell? ⟨b, off + k * 3 + 1, none⟩ = some (.int .i64 (A k).2.1) := by rw [HB.out.cell (p := ⟨b, off + k * 3 + 1, none⟩) hbl]; exact cN
        have e3 : wr.cell? ⟨b, off + k * 3 + 2, none⟩ = some (.string (A k).2.2) := by rw [HB.out.cell (p := ⟨b, off + k * 3 + 2, none⟩) hbl]; exact cS
        clear cA cN cS
        have hbr : b < wr.heap.size := by omega
        have hne : some b ≠ u5.ownBlock := fun e => by have := (HO.out.lt b e.symm).1; omega
        have hc1 : ∀ (j : Nat) (u : Value), (acCells (cutA A k))[j]? = some u → (wr.drew.alloc (.cells #[.int .i64 (A k).1, .int .i64 (A k).2.1, .string (cut (A k).2.2)] 37)).cell? ((⟨wr.heap.size, 0, none⟩ : Addr).add j) = some u :=
          World.news_of_block (World.alloc_heap_new wr.drew (.cells #[.int .i64 (A k).1, .int .i64 (A k).2.1, .string (cut (A k).2.2)] 37))
        have hc2 : ∀ u ∈ acCells (cutA A k), u.oneCell' = true := by intro u hu; simp [acCells] at hu; rcases hu with rfl | rfl | rfl <;> rfl
        have HNE := Lib.hid hne
        have H1 := Lib.hid hc1
        have H2 := Lib.hid hc2
        have H3 : Hid (k + 1 ≤ maxLen ∧ (k + 1) * 32 ≤ 140737488355328) := ⟨by unfold maxLen; omega, by omega⟩
        have H5 : Hid (w.heap.size ≤ (wr.drew.alloc (.cells #[.int .i64 (A k).1, .int .i64 (A k).2.1, .string (cut (A k).2.2)] 37)).heap.size) := by show _ ≤ _; rw [World.size_alloc]; exact Nat.le_succ_of_le hbs
        have HX := Lib.hid (And.intro e1 (And.intro e2 e3))
        clear hne hc1 hc2
        go_wp2_with fail
        go_region_held_law (fun w' => w'.cell? ⟨b, off + k * 3, none⟩ = some (.int .i64 (A k).1) ∧ w'.cell? ⟨b, off + k * 3 + 1, none⟩ = some (.int .i64 (A k).2.1) ∧ w'.cell? ⟨b, off + k * 3 + 2, none⟩ = some (.string (A k).2.2))
          (first
            | exact ⟨far_cell HG.out hbr HNE.out _ _ HX.out.1, far_cell HG.out hbr HNE.out _ _ HX.out.2.1, far_cell HG.out hbr HNE.out _ _ HX.out.2.2⟩
            | exact ⟨(Below.heap_alloc wr.drew _ _ hbr ▸ HX.out.1), (Below.heap_alloc wr.drew _ _ hbr ▸ HX.out.2.1), (Below.heap_alloc wr.drew _ _ hbr ▸ HX.out.2.2)⟩
            | go_keep)
          (first
            | (go_at_call 10; refine (cut_any _ _).mono ?_; rintro e w' ⟨rfl, rfl⟩)
            | (refine step_append_lies _ rfl (.tmp 18) (.tmp 36) 22 rfl w.heap.size 37 i0 (.agg #[.int .i64 0, .int .i64 0, .string ⟨#[]⟩]) 3 32 Tryz.underlying22 hi hz0 hz1 hz2 rfl (by decide) u5 k (flat (cutA A) k) rfl (HO.out.drew.alloc _) ⟨wr.heap.size, 0, none⟩ 1 1 (acCells (cutA A k)) rfl rfl H1.out H2.out (by decide) H3.out.1 H3.out.2 H5.out _ rfl ?_; intro g cap w1 hown hgrow hat hlt1; have HG := Lib.hid hgrow; have HO1 := Lib.hid hown; clear hgrow hown hat))
        have HNext : Hid (w1.ownsRow w.heap.size 37 3 (.slice (some ⟨g, 0, none⟩) (k + 1) cap) (k + 1) (flat (cutA A) (k + 1)) ∧ Below w.heap.size w w1 ∧ w.heap.size ≤ w1.heap.size) := by
          have hlt2 := HO.out.lt
          have h9 : Below w.heap.size w w1 := (HB.out.drew.alloc hbs _).grown HG.out (by show _ ≤ _; rw [World.size_alloc]; exact Nat.le_succ_of_le hbs) (fun j ej => (hlt2 j ej).1)
          refine ⟨?_, h9, h9.size⟩
          rw [flat_succ]; exact HO1.out
        clear HNE H1 H2 H3 H5 HX HG HO1 HO HB e1 e2 e3 hbr hbl hlt1 HC
        go_wp2
        go_roundw
        case rel => exact ⟨k + 1, by omega, by omega, by go_num, HNext.out.1, HNext.out.2.1, HNext.out.2.2⟩
        case measure => simp [intOf]; omega
      · obtain rfl : k = N := by omega
        go_wp2
        go_ret
        exact ⟨_, rfl, by rw [Nat.min_eq_right (by omega)]; exact few_end (by unfold maxLen; omega) HO.out, HB.out⟩
    · obtain rfl : k = len := by omega
      go_wp2
      go_ret
      exact ⟨_, rfl, by rw [Nat.min_eq_left (by omega)]; exact few_end (by unfold maxLen; omega) HO.out, HB.out⟩
end Go.Proofs.YtdgffpcbpilkcaaGreatDoor

/- Splices one behind the other. -/
namespace Go.Proofs.YtdgffpcbpilkcaaGreatDoor
open Go Go.RowKit Go.Shelf
attribute [local go_sem] Oper.semAt_some

/-- What any splice tells, and leaves. -/
def SpAny (W : World) (n₀ X b : Nat) (T : List UInt8) (n : Nat) (a m : Int) (s : List UInt8) (F O N : Nat) (E : Int) (W' : World) : Prop :=
  ∃ b' T', Lx W' n₀ X b' T' (n + N) ∧ Off X b W W' ∧ (b' = b ∨ W.heap.size ≤ b') ∧
    ((E = 0 ∧ N = s.count 10 + 1 ∧ F + O ≤ (splitL T).length ∧ ∃ A M : Nat, a = A ∧ m = M ∧ A + M ≤ T.length ∧ T.length - M + s.length ≤ 4000 ∧ T' = splT T A M s ∧ F = frL T A ∧ O = olL T A M) ∨
     ((E = 10 ∧ ¬ okSpan T.length a m ∨ E = 11 ∧ okSpan T.length a m ∧ 4000 < T.length - m.toNat + s.length) ∧ N = 0 ∧ F = 0 ∧ O = 0 ∧ T' = T ∧ Below W.heap.size W W'))
theorem splice_any (n₀ : Nat) (W : World) (hG : RG n₀ W) (X b : Nat) (T : List UInt8) (n : Nat) (hn : n ≤ 1000000) (h : Lx W n₀ X b T n) (a m : Int) (s : ByteArray) :
    Calls Tryz.prog 15 #[.pointer (some ⟨X, 0, none⟩), .int .i64 a, .int .i64 m, .string s] W fun e W' => ∃ (F O N : Nat) (E : Int), e = .returned (.tuple #[.agg #[.int .i64 (F : Int), .int .i64 (O : Int), .int .i64 (N : Int)], .int .i64 E]) ∧ SpAny W n₀ X b T n a m s.data.toList F O N E W' := by
  by_cases h1 : okSpan T.length a m
  · obtain ⟨p1, p2, p3, p4⟩ := h1
    obtain ⟨A, rfl⟩ : ∃ A : Nat, a = A := ⟨a.toNat, by omega⟩
    obtain ⟨M, rfl⟩ : ∃ A : Nat, m = A := ⟨m.toNat, by omega⟩
    have hAM : A + M ≤ T.length := by omega
    by_cases h2 : T.length - M + s.data.toList.length ≤ 4000
    · have hs := splice_ok n₀ W hG X b T n hn h A M s.data.toList hAM h2
      rw [bs_of] at hs
      refine hs.mono ?_
      rintro e W' ⟨rfl, b', q1, q2, q3⟩
      refine ⟨_, _, _, _, rfl, b', _, q1, q2, q3, .inl ⟨rfl, rfl, ?_, A, M, rfl, rfl, hAM, h2, rfl, rfl, rfl⟩⟩
      have h5 := frL_mono T (show A ≤ A + M by omega) hAM
      have h6 := frL_lt T hAM
      unfold olL
      omega
    · have hs := splice_full n₀ W hG X b T n h A M s hAM (by rw [Lib.size_eq]; omega)
      refine hs.mono ?_
      rintro e W' ⟨rfl, hb⟩
      exact ⟨0, 0, 0, 11, rfl, b, T, h.below hb, Off.of_below hb, .inl rfl, .inr ⟨.inr ⟨rfl, ⟨p1, p2, p3, p4⟩, by rw [Int.toNat_natCast]; omega⟩, rfl, rfl, rfl, rfl, hb⟩⟩
  · refine (splice_range n₀ W hG X b T n h a m s h1).mono ?_
    rintro e W' ⟨rfl, hb⟩
    exact ⟨0, 0, 0, 10, rfl, b, T, h.below hb, Off.of_below hb, .inl rfl, .inr ⟨.inl ⟨rfl, h1⟩, rfl, rfl, rfl, rfl, hb⟩⟩

/-- BEHIND k SPLICES: a lexer at X; the splices lie between lo and hi; what was there at first is as it was. -/
def RInv (w : World) (lo hi X : Nat) (v : Value) (A : Nat → Int × Int × ByteArray) (m k : Nat) (W : World) (b : Nat) (T : List UInt8) (n : Nat) : Prop :=
  Lx W w.heap.size X b T n ∧ n ≤ (k + 1) * 5000 ∧ Below w.heap.size w W ∧ hi ≤ W.heap.size ∧ ActsIn lo hi W v A m ∧ X < lo ∧ (b < lo ∨ hi ≤ b)
theorem RInv.still {w : World} {lo hi X : Nat} {v : Value} {A : Nat → Int × Int × ByteArray} {m k : Nat} {W W' : World} {b : Nat} {T : List UInt8} {n : Nat} (h : RInv w lo hi X v A m k W b T n) (hb : Below W.heap.size W W') : RInv w lo hi X v A m k W' b T n :=
  ⟨h.1.below hb, h.2.1, h.2.2.1.trans (hb.mono h.2.2.1.size), Nat.le_trans h.2.2.2.1 hb.size, h.2.2.2.2.1.below hb h.2.2.2.1, h.2.2.2.2.2.1, h.2.2.2.2.2.2⟩
theorem ActsIn.off {lo hi X b : Nat} {W W' : World} {v : Value} {A : Nat → Int × Int × ByteArray} {m : Nat} (h : ActsIn lo hi W v A m) (ho : Off X b W W') (hX : X < lo) (hb : b < lo ∨ hi ≤ b) (hh : hi ≤ W.heap.size) : ActsIn lo hi W' v A m := by
  obtain ⟨a0, c0, e, h1, h2⟩ := h
  refine ⟨a0, c0, e, h1, fun h0 => ?_⟩
  obtain ⟨q, off, e1, h3, h4, h5⟩ := h2 h0
  refine ⟨q, off, e1, h3, h4, fun j hj => ?_⟩
  have hq : ∀ o, W'.cell? ⟨q, o, none⟩ = W.cell? ⟨q, o, none⟩ := fun o => World.cell?_of_block (w := W) (a := ⟨q, o, none⟩) (ho.block q (by omega) (by omega) (by omega))
  rw [hq, hq, hq]
  exact h5 j hj
theorem RInv.step {w : World} {lo hi X : Nat} {v : Value} {A : Nat → Int × Int × ByteArray} {m k : Nat} {W W' : World} {b : Nat} {T : List UInt8} {n : Nat} (h : RInv w lo hi X v A m k W b T n) {a' m' : Int} {s : List UInt8} (_ : s.length ≤ 4010) {F O N : Nat} {E : Int} (hsp : SpAny W w.heap.size X b T n a' m' s F O N E W') :
    ∃ b' T', RInv w lo hi X v A m (k + 1) W' b' T' (n + N) := by
  obtain ⟨b', T', q1, q2, q3, q4⟩ := hsp
  obtain ⟨h1, h2, h3, h4, h5, h6, h7⟩ := h
  have hN : N ≤ 4011 := by
    rcases q4 with ⟨_, e, _⟩ | ⟨_, e, _⟩
    · have : s.count 10 ≤ s.length := List.count_le_length
      omega
    · omega
  have hw := h3.size
  refine ⟨b', T', q1, by omega, h3.trans (q2.below hw h1.baseX h1.ltb.2.1), Nat.le_trans h4 q2.size, h5.off q2 h6 h7 h4, h6, ?_⟩
  rcases q3 with e | e
  · rw [e]; exact h7
  · right; omega
theorem RInv.rg {w : World} {lo hi X : Nat} {v : Value} {A : Nat → Int × Int × ByteArray} {m k : Nat} {W : World} {b : Nat} {T : List UInt8} {n : Nat} (h : RInv w lo hi X v A m k W b T n) (hG : RG w.heap.size w) : RG w.heap.size W := hG.below h.2.2.1 (Nat.le_refl _)

/-! ### What tokens say -/
theorem textOf_app (L M : List Tk) : textOf (L ++ M) = textOf L ++ textOf M := by simp [textOf]
theorem textOf_toksJ : ∀ ls : List (List UInt8), textOf (toksJ ls) = joinL ls
  | [] => rfl
  | [x] => toks_text st st_ok x.length x (Nat.le_refl _)
  | x :: y :: r => by
    have h1 : textOf (toks st x 0) = x := toks_text st st_ok x.length x (Nat.le_refl _)
    have h2 := textOf_toksJ (y :: r)
    show textOf (toks st x 0 ++ ([endTk] ++ toksJ (y :: r))) = x ++ 10 :: joinL (y :: r)
    rw [textOf_app, textOf_app, h1, h2]
    rfl
theorem textOf_tokT (T : List UInt8) : textOf (tokT T) = T := by unfold tokT; rw [textOf_toksJ, join_split]
theorem tokT_len {T : List UInt8} (h : T.length ≤ 4000) : (tokT T).length ≤ 4001 := by
  have h1 := toksJ_len (splitL T)
  have h2 := begL_all (splitL T) (splitL_ne T)
  rw [join_split] at h2
  unfold begL at h2
  rw [List.take_length] at h2
  unfold tokT
  omega
theorem OwnL.tlT {W : World} {base : Nat} {v : Value} {T : List UInt8} (hs : T.length ≤ 4000) (h : OwnL W base v (tokT T)) : TL W v (tokT T) := OwnL.tl (by have := tokT_len hs; unfold maxLen; omega) h
end Go.Proofs.YtdgffpcbpilkcaaGreatDoor
