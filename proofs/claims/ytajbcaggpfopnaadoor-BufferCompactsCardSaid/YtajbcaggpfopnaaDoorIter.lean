/- The pieces are gone through by a range over a function: the iterator's contract. -/
import Derived.Test.YtajbcaggpfopnaaDoorProg
import Derived.Test.YtajbcaggpfopnaaDoorPure
import Derived.RangeFuncNested
import Derived.RangeFuncBound
import Derived.RangeFuncCalls
import Derived.RangeFuncLeaves
import Derived.Shelf.Abstract
import Derived.Shelf.RegionOpen
import Derived.WalkKit
import Derived.OwnWalkIn
import Derived.TacticsInMore
import Derived.LoopNIn
import Derived.LoopIn
namespace Go.Proofs.YtajbcaggpfopnaaDoor
open Go Go.RowKit Go.Shelf
attribute [local go_sem] Oper.semAt_some

/-- What the iterator yields at a piece: its place and the piece. -/
def encP (S : Nat → ByteArray) {len : Nat} (x : Ix len) : Array Value := #[.int .i64 (offs S x.1 : Int), .agg #[.string (S x.1)]]

set_option maxRecDepth 100000 in
set_option maxHeartbeats 2000000 in
/-- The iterator's closure: for every loop body that keeps what lay below n₀, and cells from n₁ on. -/
theorem each1_in (F : Fence) (n : Nat) (h38 : F.fn 38) (hro : F.round = none) (hn : 1 ≤ n) (l Bp n₀ n₁ B b off len cap : Nat) (S : Nat → ByteArray) (hb : b < n₀) (hlen : len ≤ 1000000) (hoff : offs S len ≤ 1000000)
    (J Jx : List (Ix len) → World → Prop) (b₀ : Nat) (hJ : AbidesFrom b₀ J)
    (hY : ∀ pre x W, J pre W → pre.length < len → YieldAt F (n - 1) Tryd.prog l (encP S x) W fun e W' =>
      (e = .returned (.bool true) ∧ J (pre ++ [x]) W' ∧ Keeps n₀ n₁ W W') ∨ (e = .returned (.bool false) ∧ Jx (pre ++ [x]) W'))
    (W : World) (h01 : n₀ ≤ n₁) (hn1 : n₁ ≤ W.heap.size) (hBp : W.cell? ⟨Bp, 0, none⟩ = some (.pointer (some ⟨B, 0, none⟩))) (hB : W.cell? ⟨B, 0, none⟩ = some (.slice (some ⟨b, off, none⟩) len cap)) (hc : ∀ j, j < len → W.cell? ⟨b, off + j, none⟩ = some (.string (S j))) (h0 : J [] W) :
    CallsIn F n Tryd.prog 38 #[.func (.yield l) #[] #[], .pointer (some ⟨Bp, 0, none⟩)] W fun e W' => (∃ v, e = .returned v) ∧
      ((∃ ys : List (Ix len), ys.map (·.1) = List.range len ∧ J ys W') ∨ (∃ pre : List (Ix len), (∃ k, k ≤ len ∧ pre.map (·.1) = List.range k) ∧ Jx pre W')) := by
  refine callsIn_of_wp Tryd.func38 rfl h38 ?_ hro
  simp only [Tryd.ntmps38, List.size_toArray, List.length_cons, List.length_nil, Nat.reduceAdd, Nat.reduceSub, Array.replicate_succ, Array.replicate_zero, List.push_toArray, List.append_toArray, List.nil_append, List.cons_append]
  gi_wp2
  gi_loopw [3, 5, 11] (fun f _ i wr => ∃ (k : Nat) (pre : List (Ix len)), k ≤ len ∧ i = .int .i64 k ∧ f = .int .i64 (offs S k : Int) ∧ pre.map (·.1) = List.range k ∧ J pre wr ∧ Below n₀ W wr ∧ n₁ ≤ wr.heap.size)
    (fun _ _ i _ => len - (intOf i).toNat)
  case atStart => exact ⟨0, [], Nat.zero_le _, rfl, rfl, rfl, h0, Below.refl _ _, hn1⟩
  case round =>
    obtain ⟨k, pre, hk, rfl, rfl, hpre, hJs, hnx, hwr⟩ := hrel
    have hcx : k < len → wr.cell? ⟨b, off + k, none⟩ = some (.string (S k)) := fun h => (hnx.cell (p := ⟨b, off + k, none⟩) hb).trans (hc k h)
    by_cases hlt : k < len
    · have hJa : J pre (wr.alloc (.cells #[.string (S k)] 51)) := hJ _ _ _ none hJs (World.grownBy_alloc wr _ none) (fun r e => by cases e)
      obtain ⟨fn, tmps, assign, body, hy, hR⟩ := hY _ ⟨k, hlt⟩ _ hJa (by rw [(inOrder_of hpre).2]; exact hlt)
      dsimp only [encP] at hy
      have hcx' := hcx hlt
      have hok : offs S k + (S k).size ≤ 1000000 := Nat.le_trans (offs_mono S (show k + 1 ≤ len from hlt)) hoff
      have HP : Hid ((pre ++ [(⟨k, hlt⟩ : Ix len)]).map (·.1) = List.range (k + 1)) := range_snoc hpre hlt
      have HQ : Hid (pre.map (·.1) = List.range k) := hpre
      clear hpre
      gi_wp2
      refine hR.mono ?_
      rintro e W3 (⟨rfl, hJ3, hk3⟩ | ⟨rfl, hJx3⟩)
      · have hbx := (hk3.cell hwr (Boxed.new wr 51 (.string (S k)))).cell
        gi_wp2
        go_roundw
        case rel => exact ⟨k + 1, pre ++ [⟨k, hlt⟩], by omega, by simp, by rw [offs_succ]; simp, HP.out, hJ3, (hnx.alloc (by omega) _).trans hk3.below, by have := hk3.below.size; simp at this; omega⟩
        case measure => simp [intOf]; omega
      · gi_wp2
        refine bodyPost_ret (results_none rfl _ _ _) rfl ?_
        exact ⟨⟨_, rfl⟩, .inr ⟨_, ⟨k + 1, by omega, HP.out⟩, hJx3⟩⟩
    · obtain rfl : k = len := by omega
      have HQ : Hid (pre.map (·.1) = List.range k) := hpre
      clear hpre
      gi_wp2
      go_end0
      exact ⟨⟨_, rfl⟩, .inl ⟨pre, HQ.out, hJs⟩⟩

set_option maxRecDepth 100000 in
set_option maxHeartbeats 1000000 in
/-- .. where there is no piece and no list: no round. -/
theorem each1_nil_in (F : Fence) (n : Nat) (h38 : F.fn 38) (hro : F.round = none) (l Bp B len : Nat) (J : List (Ix len) → World → Prop) (W : World) (hBp : W.cell? ⟨Bp, 0, none⟩ = some (.pointer (some ⟨B, 0, none⟩))) (hB : W.cell? ⟨B, 0, none⟩ = some (.slice none 0 0)) (h0 : J [] W) :
    CallsIn F n Tryd.prog 38 #[.func (.yield l) #[] #[], .pointer (some ⟨Bp, 0, none⟩)] W fun e W' => (∃ v, e = .returned v) ∧ J [] W' := by
  refine callsIn_of_wp Tryd.func38 rfl h38 ?_ hro
  simp only [Tryd.ntmps38, List.size_toArray, List.length_cons, List.length_nil, Nat.reduceAdd, Nat.reduceSub, Array.replicate_succ, Array.replicate_zero, List.push_toArray, List.append_toArray, List.nil_append, List.cons_append]
  gi_wp2
  gi_loopw [3, 5, 11] (fun _ _ i wr => i = .int .i64 0 ∧ J [] wr) (fun _ _ _ _ => 0)
  case atStart => exact ⟨rfl, h0⟩
  case round =>
    obtain ⟨rfl, hJs⟩ := hrel
    gi_wp2
    go_end0
    exact ⟨⟨_, rfl⟩, hJs⟩

set_option maxHeartbeats 1000000 in
/-- p.each(): the receiver is boxed; the function value captures the box. -/
theorem each_in (F : Fence) (n : Nat) (h33 : F.fn 33) (hro : F.round = none) (p : Option Addr) (w : World) :
    CallsIn F n Tryd.prog 33 #[.pointer p] w fun e w' => e = .returned (.func (.func 38) #[] #[.pointer (some ⟨w.heap.size, 0, none⟩)]) ∧ w' = w.alloc (.cells #[.pointer p] 61) := by
  refine callsIn_of_wp Tryd.func33 rfl h33 ?_ hro
  simp only [Tryd.ntmps33, List.size_toArray, List.length_cons, List.length_nil, Nat.reduceAdd, Nat.reduceSub, Array.replicate_succ, Array.replicate_zero, List.push_toArray, List.append_toArray, List.nil_append, List.cons_append]
  gi_wp2
  go_ret
  exact ⟨rfl, rfl⟩

/-- THE SLICE VALUE v HOLDS the pieces S 0 .. S (len - 1), in a block below n₀ (or it is nil, and there are none). -/
def Holds (n₀ : Nat) (W : World) (v : Value) (S : Nat → ByteArray) (len : Nat) : Prop :=
  (v = .slice none 0 0 ∧ len = 0) ∨ ∃ b off cap, v = .slice (some ⟨b, off, none⟩) len cap ∧ len ≤ cap ∧ cap ≤ maxLen ∧ b < n₀ ∧ ∀ j, j < len → W.cell? ⟨b, off + j, none⟩ = some (.string (S j))
theorem Holds.below {n₀ n₁ : Nat} {X Y : World} (h : Below n₀ X Y) (hn : n₁ ≤ n₀) {v : Value} {S : Nat → ByteArray} {len : Nat} : Holds n₁ X v S len → Holds n₁ Y v S len
  | .inl e => .inl e
  | .inr ⟨b, off, cap, e, h1, h2, hb, hc⟩ => .inr ⟨b, off, cap, e, h1, h2, hb, fun j hj => (h.cell (p := ⟨b, off + j, none⟩) (Nat.lt_of_lt_of_le hb hn)).trans (hc j hj)⟩
theorem Holds.mono {n₀ n₁ : Nat} {X : World} (hn : n₀ ≤ n₁) {v : Value} {S : Nat → ByteArray} {len : Nat} : Holds n₀ X v S len → Holds n₁ X v S len
  | .inl e => .inl e
  | .inr ⟨b, off, cap, e, h1, h2, hb, hc⟩ => .inr ⟨b, off, cap, e, h1, h2, Nat.lt_of_lt_of_le hb hn, hc⟩

/-- p.each() hands back a value that goes through all pieces, each with its place; or through the first k of them. -/
theorem each_stops (F : Fence) (n : Nat) (h38 : F.fn 38) (hro : F.round = none) (hn : 1 ≤ n) (Bp n₀ n₁ B : Nat) (v : Value) (S : Nat → ByteArray) (len : Nat) (hlen : len ≤ 1000000) (hoff : offs S len ≤ 1000000)
    (w : World) (h01 : n₀ ≤ n₁) (hn1 : n₁ ≤ w.heap.size) (hBp : Bp < w.heap.size) (cBp : w.cell? ⟨Bp, 0, none⟩ = some (.pointer (some ⟨B, 0, none⟩))) (hB : B < n₀) (cB : w.cell? ⟨B, 0, none⟩ = some v) (hv : Holds n₀ w v S len) :
    SeqStopsK F n Tryd.prog 38 #[.pointer (some ⟨Bp, 0, none⟩)] (encP S) (Keeps n₀ n₁) (fun ys : List (Ix len) => ys.map (·.1) = List.range len)
      (fun pre => ∃ k, k ≤ len ∧ pre.map (·.1) = List.range k) len w := fun l J Jx W hW hJ _ hY h0 => by
  have c1 := (hW.cell (p := ⟨Bp, 0, none⟩) hBp).trans cBp
  have c2 := (hW.cell (p := ⟨B, 0, none⟩) (by show B < _; omega)).trans cB
  rcases hv.below hW (by omega) with ⟨rfl, rfl⟩ | ⟨b, off, cap, rfl, _, _, hb, hcs⟩
  · exact (each1_nil_in F n h38 hro l Bp B 0 J W c1 c2 h0).mono fun e W' ⟨he, hj⟩ => ⟨he, .inl ⟨_, rfl, hj⟩⟩
  · exact each1_in F n h38 hro hn l Bp n₀ n₁ B b off len cap S hb hlen hoff J Jx _ hJ hY W h01 (Nat.le_trans hn1 hW.size) c1 c2 hcs h0

end Go.Proofs.YtajbcaggpfopnaaDoor
