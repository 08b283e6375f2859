/- The glyphs are gone through by a range over a function: the iterator's contract. -/
import Derived.Test.YtdgffpcbpilkcaaGreatDoorProg
import Derived.Test.YtdgffpcbpilkcaaGreatDoorGlMath
import Derived.Test.YtdgffpcbpilkcaaGreatDoorPgRow
import Derived.Test.YtdgffpcbpilkcaaGreatDoorPgRng
import Derived.RangeFuncNested
import Derived.RangeFuncBound
import Derived.RangeFuncCalls
import Derived.RangeFuncLeaves
import Derived.Shelf.Abstract
import Derived.Shelf.RegionOpen
import Derived.WalkKit
import Derived.OwnWalkIn
import Derived.TacticsInMore
import Derived.LoopNIn
import Derived.LoopIn
import Derived.Outline
import Derived.Lib.Hide
namespace Go.Proofs.YtdgffpcbpilkcaaGreatDoor
open Go Go.RowKit Go.Shelf
attribute [local go_sem] Oper.semAt_some

/-- A sign as a value. -/
def signV (k : Nat) : Value := .agg #[.string (bs (gl k)), .string (bs (di k)), .int .i64 ((cl k : Nat) : Int)]
/-- THE TABLE LIES in its variable's block. -/
def TabG (W : World) : Prop := ∀ k, k < 38 → W.cell? ⟨5, k * 3, none⟩ = some (.string (bs (gl k))) ∧ W.cell? ⟨5, k * 3 + 1, none⟩ = some (.string (bs (di k))) ∧ W.cell? ⟨5, k * 3 + 2, none⟩ = some (.int .i64 ((cl k : Nat) : Int))
theorem TabG.below {n₀ : Nat} {W W' : World} (h : TabG W) (hb : Below n₀ W W') (hg : 5 < n₀) : TabG W' := fun k hk => by
  obtain ⟨h1, h2, h3⟩ := h k hk
  exact ⟨(hb.cell (p := ⟨5, k * 3, none⟩) hg).trans h1, (hb.cell (p := ⟨5, k * 3 + 1, none⟩) hg).trans h2, (hb.cell (p := ⟨5, k * 3 + 2, none⟩) hg).trans h3⟩
/-- WHAT A CALL WANTS: the table, in a block that lies. -/
structure Ground (W : World) : Prop where
  tab : TabG W
  lt : 5 < W.heap.size
theorem Ground.below {W W' : World} (h : Ground W) (hb : Below W.heap.size W W') : Ground W' := ⟨h.tab.below hb h.lt, Nat.lt_of_lt_of_le h.lt hb.size⟩
theorem Ground.belowN {n₀ : Nat} {W W' : World} (h : Ground W) (hb : Below n₀ W W') (hg : 5 < n₀) : Ground W' := ⟨h.tab.below hb hg, Nat.lt_of_lt_of_le h.lt hb.size⟩

/-- What the iterator yields: the sign. -/
def encG (x : Ix 38) : Array Value := #[signV x.1]

set_option maxRecDepth 100000 in
set_option maxHeartbeats 2000000 in
/-- The iterator's closure, for every loop body that keeps what lay below n₀. -/
theorem signs1_in (n : Nat) (hn : 1 ≤ n) (l n₀ m : Nat) (hg : 5 < n₀)
    (J Jx : List (Ix 38) → World → Prop)
    (hY : ∀ pre x W, J pre W → pre.length < 38 → m ≤ W.heap.size → YieldAt Fence.wide (n - 1) Tryz.prog l (encG x) W fun e W' =>
      (e = .returned (.bool true) ∧ J (pre ++ [x]) W' ∧ Below n₀ W W') ∨ (e = .returned (.bool false) ∧ Jx (pre ++ [x]) W'))
    (W : World) (hm : m ≤ W.heap.size) (hT : TabG W) (h0 : J [] W) :
    CallsIn Fence.wide n Tryz.prog 121 #[.func (.yield l) #[] #[]] W fun e W' => (∃ v, e = .returned v) ∧
      ((∃ ys : List (Ix 38), ys.map (·.1) = List.range 38 ∧ J ys W') ∨ (∃ pre : List (Ix 38), (∃ k, k ≤ 38 ∧ pre.map (·.1) = List.range k) ∧ Jx pre W')) := by
  refine callsIn_of_wp Tryz.func121 rfl trivial ?_ rfl
  simp only [Tryz.ntmps121, List.size_toArray, List.length_cons, List.length_nil, Nat.reduceAdd, Nat.reduceSub, Array.replicate_succ, Array.replicate_zero, List.push_toArray, List.append_toArray, List.nil_append, List.cons_append]
  gi_wp2
  gi_loopw [3] (fun i wr => ∃ (k : Nat) (pre : List (Ix 38)), k ≤ 38 ∧ i = .int .i64 k ∧ pre.map (·.1) = List.range k ∧ J pre wr ∧ TabG wr ∧ m ≤ wr.heap.size)
    (fun i _ => 38 - (intOf i).toNat)
  case atStart => exact ⟨0, [], Nat.zero_le _, rfl, rfl, h0, hT, hm⟩
  case round =>
    obtain ⟨k, pre, hk, rfl, hpre, hJs, hT2, hm2⟩ := hrel
    by_cases hlt : k < 38
    · obtain ⟨c1, c2, c3⟩ := hT2 k hlt
      obtain ⟨fn, tmps, assign, body, hy, hR⟩ := hY pre ⟨k, hlt⟩ wr hJs (by rw [(inOrder_of hpre).2]; exact hlt) hm2
      dsimp only [encG, signV] at hy
      have HP : Hid ((pre ++ [(⟨k, hlt⟩ : Ix 38)]).map (·.1) = List.range (k + 1)) := range_snoc hpre hlt
      have HT := Lib.hid hT2
      clear hpre hT2
      gi_wp2
      refine hR.mono ?_
      rintro e W3 (⟨rfl, hJ3, hk3⟩ | ⟨rfl, hJx3⟩)
      · gi_wp2
        go_roundw
        case rel => exact ⟨k + 1, pre ++ [⟨k, hlt⟩], by omega, by simp, HP.out, hJ3, HT.out.below hk3 hg, Nat.le_trans hm2 hk3.size⟩
        case measure => simp [intOf]; omega
      · gi_wp2
        refine bodyPost_ret (results_none rfl _ _ _) rfl ?_
        exact ⟨⟨_, rfl⟩, .inr ⟨_, ⟨k + 1, by omega, HP.out⟩, hJx3⟩⟩
    · obtain rfl : k = 38 := by omega
      have HP := Lib.hid hpre
      clear hpre hT2
      gi_wp2
      go_end0
      exact ⟨⟨_, rfl⟩, .inl ⟨pre, HP.out, hJs⟩⟩

theorem signs_stops (n : Nat) (hn : 1 ≤ n) (n₀ : Nat) (hg : 5 < n₀) (w : World) (hgw : 5 < w.heap.size) (hT : TabG w) :
    SeqStopsB Fence.wide n Tryz.prog 121 #[] encG (Below n₀) (fun ys : List (Ix 38) => ys.map (·.1) = List.range 38)
      (fun pre => ∃ k, k ≤ 38 ∧ pre.map (·.1) = List.range k) 38 w := fun l J Jx W hW _ _ hY h0 =>
  signs1_in n hn l n₀ W.heap.size hg J Jx hY W (Nat.le_refl _) (hT.below hW hgw) h0

set_option maxHeartbeats 1000000 in
/-- signs(): the function value. -/
theorem signs_in (n : Nat) (w : World) :
    CallsIn Fence.wide n Tryz.prog 116 #[] w fun e w' => e = .returned (.func (.func 121) #[] #[]) ∧ w' = w := by
  refine callsIn_of_wp Tryz.func116 rfl trivial ?_ rfl
  simp only [Tryz.ntmps116, List.size_toArray, List.length_nil, Nat.reduceSub, Array.replicate_succ, Array.replicate_zero, List.push_toArray, List.append_toArray, List.nil_append]
  gi_wp2
  go_ret
  exact ⟨rfl, rfl⟩
end Go.Proofs.YtdgffpcbpilkcaaGreatDoor
