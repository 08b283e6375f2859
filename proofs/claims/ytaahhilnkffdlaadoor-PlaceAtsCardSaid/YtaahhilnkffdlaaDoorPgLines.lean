/- The lines are gone through by a range over a function: the iterator's contract. -/
import Derived.Test.YtaahhilnkffdlaaDoorShelf
import Derived.Test.YtaahhilnkffdlaaDoorPlMath
import Derived.Test.YtaahhilnkffdlaaDoorPure
import Derived.RangeFuncNested
import Derived.RangeFuncBound
import Derived.RangeFuncCalls
import Derived.RangeFuncLeaves
import Derived.Shelf.Abstract
import Derived.Shelf.RegionOpen
import Derived.WalkKit
import Derived.OwnWalkIn
import Derived.TacticsInMore
import Derived.LoopNIn
import Derived.LoopIn
import Derived.Outline
import Derived.Lib.Hide
namespace Go.Proofs.YtaahhilnkffdlaaDoor
open Go Go.RowKit Go.Shelf
attribute [local go_sem] Oper.semAt_some

/-- WHAT A ROUND KEEPS: what lay below n₀, and the block Bt. -/
structure KeepB (n₀ Bt : Nat) (W W' : World) : Prop where
  below : Below n₀ W W'
  blk : W'.heap[Bt]? = W.heap[Bt]?
theorem KeepB.refl (n₀ Bt : Nat) (W : World) : KeepB n₀ Bt W W := ⟨Below.refl _ _, rfl⟩
theorem keepB_t {n₀ Bt : Nat} {A B C : World} (h : KeepB n₀ Bt A B) (k : KeepB n₀ Bt B C) : KeepB n₀ Bt A C := ⟨h.below.trans k.below, k.blk.trans h.blk⟩
theorem keepB_b {n₀ Bt : Nat} {w : World} (hn : n₀ ≤ w.heap.size) (hB : Bt < w.heap.size) (W : World) (l : Nat) (o o' : Obj) (hl : w.heap.size ≤ l) (h : W.heap[l]? = some o) (hc : o.isCells = false) (hw : o.isWalk = false) : KeepB n₀ Bt W (W.putObj l o') :=
  ⟨belowK_b hn W l o o' hl h hc hw, World.putObj_heap_other (fun e => by omega)⟩
theorem KeepB.cell {n₀ Bt : Nat} {W W' : World} (h : KeepB n₀ Bt W W') (i : Nat) : W'.cell? ⟨Bt, i, none⟩ = W.cell? ⟨Bt, i, none⟩ := by
  unfold World.cell?
  show (match W'.heap[Bt]? with | _ => _) = _
  rw [h.blk]

/-- What the iterator yields at a line: its number, where it begins and where it ends. -/
def encL (T : List UInt8) (x : Ix (nlines T)) : Array Value := #[.int .i64 ((x.1 : Nat) : Int), .agg #[.int .i64 ((lineAt T x.1 : Nat) : Int), .int .i64 ((lineEnd T x.1 : Nat) : Int)]]

/-- strings.IndexByte of what is behind a line's beginning. -/
theorem index_mid (n : Nat) (s : ByteArray) (k a b d : Nat) (w : World) (h : k + 1 < nlines s.data.toList) (ha : a = lineAt s.data.toList k) (hb : b = lineEnd s.data.toList k) (hd : a + d = b) :
    CallsIn Fence.wide n Tryd.prog 46 #[.string (s.extract a s.size), .int .u8 10] w fun e w' => e = .returned (.int .i64 (d : Int)) ∧ w = w' := by
  refine callsIn_wide.2 ((Tryd.strings_IndexByte _ _ _).mono ?_)
  rintro e w' ⟨rfl, rfl⟩
  have h1 := line_index_mid s.data.toList k h
  rw [← ha, ← hb, ← ext_drop, show b - a = d by omega] at h1
  exact ⟨by rw [show ((10 : Int).toNat.toUInt8) = 10 from rfl, h1], rfl⟩
theorem index_last (n : Nat) (s : ByteArray) (k a : Nat) (w : World) (hk : k < nlines s.data.toList) (h : ¬ k + 1 < nlines s.data.toList) (ha : a = lineAt s.data.toList k) :
    CallsIn Fence.wide n Tryd.prog 46 #[.string (s.extract a s.size), .int .u8 10] w fun e w' => e = .returned (.int .i64 (-1)) ∧ w = w' := by
  refine callsIn_wide.2 ((Tryd.strings_IndexByte _ _ _).mono ?_)
  rintro e w' ⟨rfl, rfl⟩
  have h1 := line_index_last s.data.toList k hk h
  rw [← ha, ← ext_drop] at h1
  exact ⟨by rw [show ((10 : Int).toNat.toUInt8) = 10 from rfl, h1], rfl⟩

set_option maxRecDepth 100000 in
set_option maxHeartbeats 2000000 in
/-- The iterator's closure, for every loop body that keeps what lay below n₀ and the block of the text. -/
theorem lines1_in (n : Nat) (hn : 1 ≤ n) (l Bt n₀ : Nat) (s : ByteArray) (hs : s.size ≤ 600)
    (J Jx : List (Ix (nlines s.data.toList)) → World → Prop)
    (hY : ∀ pre x W, J pre W → pre.length < nlines s.data.toList → YieldAt Fence.wide (n - 1) Tryd.prog l (encL s.data.toList x) W fun e W' =>
      (e = .returned (.bool true) ∧ J (pre ++ [x]) W' ∧ KeepB n₀ Bt W W') ∨ (e = .returned (.bool false) ∧ Jx (pre ++ [x]) W'))
    (W : World) (hBt : W.cell? ⟨Bt, 0, none⟩ = some (.string s)) (h0 : J [] W) :
    CallsIn Fence.wide n Tryd.prog 45 #[.func (.yield l) #[] #[], .pointer (some ⟨Bt, 0, none⟩)] W fun e W' => (∃ v, e = .returned v) ∧
      ((∃ ys : List (Ix (nlines s.data.toList)), ys.map (·.1) = List.range (nlines s.data.toList) ∧ J ys W') ∨ (∃ pre : List (Ix (nlines s.data.toList)), (∃ k, k ≤ nlines s.data.toList ∧ pre.map (·.1) = List.range k) ∧ Jx pre W')) := by
  have hN := nlines_pos s.data.toList
  have hN2 : nlines s.data.toList ≤ 601 := by have := nlines_le s.data.toList; rw [← Lib.size_eq] at this; omega
  have hTl : s.data.toList.length = s.size := (Lib.size_eq s).symm
  have HTL := Lib.hid hTl
  clear hTl
  refine callsIn_of_wp Tryd.func45 rfl trivial ?_ rfl
  simp only [Tryd.ntmps45, List.size_toArray, List.length_cons, List.length_nil, Nat.reduceAdd, Nat.reduceSub, Array.replicate_succ, Array.replicate_zero, List.push_toArray, List.append_toArray, List.nil_append, List.cons_append]
  gi_wp2
  gi_loopw [3, 4] (fun f i wr => ∃ (k : Nat) (pre : List (Ix (nlines s.data.toList))), k < nlines s.data.toList ∧ i = .int .i64 k ∧ f = .int .i64 ((lineAt s.data.toList k : Nat) : Int) ∧ pre.map (·.1) = List.range k ∧ J pre wr ∧ wr.cell? ⟨Bt, 0, none⟩ = some (.string s))
    (fun _ i _ => nlines s.data.toList - (intOf i).toNat)
  case atStart => exact ⟨0, [], hN, rfl, by rw [lineAt_zero]; rfl, rfl, h0, hBt⟩
  case round =>
    obtain ⟨k, pre, hk, rfl, rfl, hpre, hJs, hbt⟩ := hrel
    obtain ⟨fn, tmps, assign, body, hy, hR⟩ := hY pre ⟨k, hk⟩ wr hJs (by rw [(inOrder_of hpre).2]; exact hk)
    dsimp only [encL] at hy
    have HP : Hid ((pre ++ [(⟨k, hk⟩ : Ix (nlines s.data.toList))]).map (·.1) = List.range (k + 1)) := range_snoc hpre hk
    obtain ⟨a, ha⟩ : ∃ a, a = lineAt s.data.toList k := ⟨_, rfl⟩
    obtain ⟨b, hb⟩ : ∃ b, b = lineEnd s.data.toList k := ⟨_, rfl⟩
    have hab : a ≤ b := by rw [ha, hb]; exact lineAt_lineEnd _ _ hk
    have hbs : b ≤ s.size := by rw [hb]; have := lineEnd_le s.data.toList k; rw [HTL.out] at this; exact this
    rw [← ha, ← hb] at hy
    rw [← ha]
    clear hpre
    by_cases hlt : k + 1 < nlines s.data.toList
    · obtain ⟨d, hd⟩ : ∃ d, a + d = b := ⟨b - a, by omega⟩
      have es : (a : Int) + (d : Int) = (b : Int) := by omega
      have hd6 : d ≤ 600 := by omega
      have HI := fun w => Lib.hid (index_mid (n - 1) s k a b d w hlt ha hb hd)
      have HA : Hid (lineAt s.data.toList (k + 1) = a + (d + 1)) := Lib.hid (by rw [lineAt_succ _ _ hlt, ← hb]; omega)
      have HAA := Lib.hid ha
      have HBB := Lib.hid hb
      have HD := Lib.hid hd
      clear ha hb hd
      gi_wp2_with (refine ⟨trivial, ?_⟩; gi_at_call 46; refine (HI _).out.mono ?_; rintro e w' ⟨rfl, rfl⟩)
      refine hR.mono ?_
      rintro e W3 (⟨rfl, hJ3, hk3⟩ | ⟨rfl, hJx3⟩)
      · have hb3 : W3.cell? ⟨Bt, 0, none⟩ = some (.string s) := (hk3.cell 0).trans hbt
        have HH := Lib.hid hb3
        clear hb3
        gi_wp2
        go_roundw
        case rel => exact ⟨k + 1, pre ++ [⟨k, hk⟩], hlt, by simp, by rw [HA.out]; simp, HP.out, hJ3, HH.out⟩
        case measure => simp [intOf]; omega
      · gi_wp2
        refine bodyPost_ret (results_none rfl _ _ _) rfl ?_
        exact ⟨⟨_, rfl⟩, .inr ⟨_, ⟨k + 1, by omega, HP.out⟩, hJx3⟩⟩
    · have HI := fun w => Lib.hid (index_last (n - 1) s k a w hk hlt ha)
      have HB : Hid (b = s.size) := Lib.hid (by rw [hb, lineEnd_last _ _ hlt, HTL.out])
      rw [HB.out] at hy
      have HK : Hid (k + 1 = nlines s.data.toList) := Lib.hid (by omega)
      clear ha hb
      gi_wp2_with (refine ⟨trivial, ?_⟩; gi_at_call 46; refine (HI _).out.mono ?_; rintro e w' ⟨rfl, rfl⟩)
      refine hR.mono ?_
      rintro e W3 (⟨rfl, hJ3, hk3⟩ | ⟨rfl, hJx3⟩)
      · gi_wp2
        refine bodyPost_ret (results_none rfl _ _ _) rfl ?_
        exact ⟨⟨_, rfl⟩, .inl ⟨_, HP.out.trans (by rw [HK.out]), hJ3⟩⟩
      · gi_wp2
        refine bodyPost_ret (results_none rfl _ _ _) rfl ?_
        exact ⟨⟨_, rfl⟩, .inr ⟨_, ⟨k + 1, by omega, HP.out⟩, hJx3⟩⟩

end Go.Proofs.YtaahhilnkffdlaaDoor
