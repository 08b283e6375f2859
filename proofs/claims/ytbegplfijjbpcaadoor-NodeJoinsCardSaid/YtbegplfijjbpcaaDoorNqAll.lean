/- The program: slices.All over some nodes, in order: the iterator's contract, for loops that speak of blocks of other types. -/
import Derived.Test.YtbegplfijjbpcaaDoorNoA
import Derived.Test.YtbegplfijjbpcaaDoorGrOrd
import Derived.Test.YtbegplfijjbpcaaDoorLxRng
import Derived.RangeFuncNested
import Derived.RangeFuncBound
import Derived.RangeFuncCalls
import Derived.RangeFuncLeaves
import Derived.Shelf.Abstract
import Derived.Shelf.RegionOpen
import Derived.WalkKit
import Derived.OwnWalkIn
import Derived.TacticsInMore
import Derived.LoopNIn
import Derived.LoopIn
namespace Go.Proofs.YtbegplfijjbpcaaDoor.No
open Go Go.RowKit Go.Shelf
attribute [local go_sem] Oper.semAt_some

/-- Node k of a list. -/
def ndAt (T : List Nd) (k : Nat) : Nd := T[k]?.getD ⟨0, [], []⟩
theorem ndAt_of {T : List Nd} {k : Nat} (h : k < T.length) : T[k]? = some (ndAt T k) := by
  unfold ndAt
  rw [List.getElem?_eq_getElem h]
  rfl
/-- The nodes' cells from (g, o) on; kv: the kids' values. -/
def LiesN (W : World) (g o : Nat) (kv : Nat → Value) (T : List Nd) : Prop := ∀ j x, T[j]? = some x → W.cell? ⟨g, o + j * 3, none⟩ = some (.int .i64 x.kind) ∧ W.cell? ⟨g, o + j * 3 + 1, none⟩ = some (.string (bs x.text)) ∧ W.cell? ⟨g, o + j * 3 + 2, none⟩ = some (kv j) ∧ KL W (kv j) x.kids
theorem LiesN.below {W' : World} {g o B : Nat} {kv : Nat → Value} {T : List Nd} {w0 : World} (h : LiesN w0 g o kv T) (hB : w0.heap.size = B) (hb : Below B w0 W') (hg : g < B) : LiesN W' g o kv T := fun j x hx => by
  subst hB
  obtain ⟨h1, h2, h3, h4⟩ := h j x hx
  exact ⟨(hb.cell (p := ⟨g, o + j * 3, none⟩) hg).trans h1, (hb.cell (p := ⟨g, o + j * 3 + 1, none⟩) hg).trans h2, (hb.cell (p := ⟨g, o + j * 3 + 2, none⟩) hg).trans h3, h4.below hb⟩
/-- A list of nodes lies somewhere. -/
theorem NL.lies {W : World} {v : Value} {T : List Nd} (h : NL W v T) : ∃ a0 c0 kv, v = .slice a0 T.length c0 ∧ T.length ≤ c0 ∧ c0 ≤ maxLen ∧ (0 < T.length → ∃ g o, a0 = some ⟨g, o, none⟩ ∧ g < W.heap.size ∧ LiesN W g o kv T) := by
  obtain ⟨a0, c0, hv, h1, h2⟩ := h.form
  by_cases h0 : 0 < T.length
  · obtain ⟨g, o, c1, hv2, hg, hc⟩ := h.cells h0
    rw [hv] at hv2
    injection hv2 with e1 _ _
    refine ⟨a0, c0, fun j => (W.cell? ⟨g, o + j * 3 + 2, none⟩).getD undef, hv, h1, h2, fun _ => ⟨g, o, e1, hg, fun j x hx => ?_⟩⟩
    obtain ⟨q1, q2, kv, q3, q4⟩ := hc j x hx
    show _ ∧ _ ∧ _ = some ((W.cell? ⟨g, o + j * 3 + 2, none⟩).getD undef) ∧ KL W ((W.cell? ⟨g, o + j * 3 + 2, none⟩).getD undef) x.kids
    rw [q3]
    exact ⟨q1, q2, rfl, q4⟩
  · exact ⟨a0, c0, fun _ => undef, hv, h1, h2, fun h => absurd h h0⟩
def encN (T : List Nd) (kv : Nat → Value) {len : Nat} (x : Ix len) : Array Value := #[.int .i64 (x.1 : Int), .agg #[.int .i64 (ndAt T x.1).kind, .string (bs (ndAt T x.1).text), kv x.1]]

set_option maxRecDepth 100000 in
set_option maxHeartbeats 2000000 in
theorem allN1_in (F : Fence) (n : Nat) (hf : F.fn 58) (hro : F.round = none) (hn : 1 ≤ n) (l Bp n₀ len cap : Nat) (a0 : Option Addr) (T : List Nd) (kv : Nat → Value) (hL : T.length = len) (hlen : len ≤ 1000000)
    (J Jx : List (Ix len) → World → Prop) (b₀ : Nat) (hJ : AbT 42 b₀ J)
    (hY : ∀ pre x W, J pre W → pre.map (·.1) = List.range x.1 → b₀ ≤ W.heap.size → YieldAt F (n - 1) Tryd.prog l (encN T kv x) W fun e W' =>
      (e = .returned (.bool true) ∧ J (pre ++ [x]) W' ∧ Below n₀ W W') ∨ (e = .returned (.bool false) ∧ Jx (pre ++ [x]) W'))
    (W : World) (hb0 : b₀ ≤ W.heap.size) (hn0 : n₀ ≤ W.heap.size) (hB : W.cell? ⟨Bp, 0, none⟩ = some (.slice a0 len cap)) (hc : 0 < len → ∃ g o, a0 = some ⟨g, o, none⟩ ∧ g < n₀ ∧ LiesN W g o kv T) (h0 : J [] W) :
    CallsIn F n Tryd.prog 58 #[.func (.yield l) #[] #[], .pointer (some ⟨Bp, 0, none⟩)] W fun e W' => (∃ v, e = .returned v) ∧
      ((∃ ys : List (Ix len), ys.map (·.1) = List.range len ∧ J ys W') ∨ (∃ pre : List (Ix len), (∃ k, k ≤ len ∧ pre.map (·.1) = List.range k) ∧ Jx pre W')) := by
  refine callsIn_of_wp Tryd.func58 rfl hf ?_ hro
  simp only [Tryd.ntmps58, List.size_toArray, List.length_cons, List.length_nil, Nat.reduceAdd, Nat.reduceSub, Array.replicate_succ, Array.replicate_zero, List.push_toArray, List.append_toArray, List.nil_append, List.cons_append]
  have HC := Lib.hid hc
  clear hc
  gi_wp2
  gi_loopw [7] (fun i wr => ∃ (k : Nat) (pre : List (Ix len)), k ≤ len ∧ i = .int .i64 k ∧ pre.map (·.1) = List.range k ∧ J pre wr ∧ Below n₀ W wr ∧ b₀ ≤ wr.heap.size)
    (fun i _ => len - (intOf i).toNat)
  case atStart => exact ⟨0, [], Nat.zero_le _, rfl, rfl, h0, Below.refl _ _, hb0⟩
  case round =>
    obtain ⟨k, pre, hk, rfl, hpre, hJs, hnx, hbr⟩ := hrel
    by_cases hlt : k < len
    · obtain ⟨g, o, rfl, hg, hcl⟩ := HC.out (by omega)
      obtain ⟨x0, x1, x2, x3⟩ := hcl k _ (ndAt_of (by omega))
      obtain ⟨ka, kc, hkv, _⟩ := x3.form
      obtain ⟨S, hS⟩ : ∃ S, S = bs (ndAt T k).text := ⟨_, rfl⟩
      obtain ⟨G, hG⟩ : ∃ n, n = (ndAt T k).kids.length := ⟨_, rfl⟩
      rw [← hG] at hkv
      obtain ⟨K, hK⟩ : ∃ a, a = (ndAt T k).kind := ⟨_, rfl⟩
      have hst : StepT 42 b₀ wr (wr.alloc (.cells #[.int .i64 K, .string S, .slice ka G kc] 42)) := ⟨(Below.refl _ wr).alloc hbr _, fun k o ho _ => (Below.heap_alloc wr _ k (Array.getElem?_eq_some_iff.1 ho).1).trans ho⟩
      have hyy := hY _ ⟨k, hlt⟩ _ (hJ _ _ _ hJs hst) hpre (by rw [World.size_alloc]; omega)
      unfold encN at hyy
      dsimp only at hyy
      rw [← hS, ← hK, hkv] at hyy
      rw [← hS] at x1
      rw [hkv] at x2
      rw [← hK] at x0
      obtain ⟨fn, tmps, assign, body, hy, hR⟩ := hyy
      have c0 := (hnx.cell (p := ⟨g, o + k * 3, none⟩) hg).trans x0
      have c1 := (hnx.cell (p := ⟨g, o + k * 3 + 1, none⟩) hg).trans x1
      have c2 := (hnx.cell (p := ⟨g, o + k * 3 + 2, none⟩) hg).trans x2
      have HP : Hid ((pre ++ [(⟨k, hlt⟩ : Ix len)]).map (·.1) = List.range (k + 1)) := range_snoc hpre hlt
      have hwn : n₀ ≤ wr.heap.size := Nat.le_trans hn0 hnx.size
      have hrl : (k : Int) < (len : Int) := by omega
      clear hpre x0 x1 x2 x3 hS hG hK hst hcl hkv
      gi_wp2
      refine hR.mono ?_
      rintro e W3 (⟨rfl, hJ3, hk3⟩ | ⟨rfl, hJx3⟩)
      · gi_wp2
        go_roundw
        case rel => exact ⟨k + 1, pre ++ [⟨k, hlt⟩], by omega, by simp, HP.out, hJ3, (hnx.alloc hwn _).trans hk3, by have := hk3.size; simp at this; omega⟩
        case measure => simp [intOf]; omega
      · gi_wp2
        refine bodyPost_ret (results_none rfl _ _ _) rfl ?_
        exact ⟨⟨_, rfl⟩, .inr ⟨_, ⟨k + 1, by omega, HP.out⟩, hJx3⟩⟩
    · obtain rfl : k = len := by omega
      have HQ : Hid (pre.map (·.1) = List.range k) := hpre
      clear hpre
      gi_wp2
      go_end0
      exact ⟨⟨_, rfl⟩, .inl ⟨pre, HQ.out, hJs⟩⟩

/-- slices.All(l) goes through all tokens, each with its place; or through the first k of them. -/
theorem allN_stops (F : Fence) (n : Nat) (hf : F.fn 58) (hro : F.round = none) (hn : 1 ≤ n) (Bp n₀ len cap : Nat) (a0 : Option Addr) (T : List Nd) (kv : Nat → Value) (hL : T.length = len) (hlen : len ≤ 1000000)
    (w : World) (hn0 : n₀ ≤ w.heap.size) (hBp : Bp < w.heap.size) (hB : w.cell? ⟨Bp, 0, none⟩ = some (.slice a0 len cap)) (hc : 0 < len → ∃ g o, a0 = some ⟨g, o, none⟩ ∧ g < n₀ ∧ LiesN w g o kv T) :
    SeqStopsO 42 F n Tryd.prog 58 #[.pointer (some ⟨Bp, 0, none⟩)] (encN T kv) (Below n₀) (fun ys : List (Ix len) => ys.map (·.1) = List.range len)
      (fun pre => ∃ k, k ≤ len ∧ pre.map (·.1) = List.range k) (fun pre x => pre.map (·.1) = List.range x.1) w := fun l J Jx W hW hJ _ hY h0 => by
  have c1 := (hW.cell (p := ⟨Bp, 0, none⟩) hBp).trans hB
  refine allN1_in F n hf hro hn l Bp n₀ len cap a0 T kv hL hlen J Jx _ hJ (fun pre x W1 h1 h2 h3 => hY pre x W1 h1 h2 h3) W (Nat.le_refl _) (Nat.le_trans hn0 hW.size) c1 (fun h => ?_) h0
  obtain ⟨g, o, h1, h2, h3⟩ := hc h
  exact ⟨g, o, h1, h2, fun j x hj => by
    obtain ⟨q1, q2, q3, q4⟩ := h3 j x hj
    exact ⟨(hW.cell (p := ⟨g, o + j * 3, none⟩) (by show g < _; omega)).trans q1, (hW.cell (p := ⟨g, o + j * 3 + 1, none⟩) (by show g < _; omega)).trans q2, (hW.cell (p := ⟨g, o + j * 3 + 2, none⟩) (by show g < _; omega)).trans q3, q4.below hW⟩⟩
set_option maxRecDepth 100000 in
theorem allN_in (F : Fence) (n : Nat) (hf : F.fn 46) (hro : F.round = none) (a : Option Addr) (k c : Nat) (w : World) :
    CallsIn F n Tryd.prog 46 #[.slice a k c] w fun e w' => e = .returned (.func (.func 58) #[] #[.pointer (some ⟨w.heap.size, 0, none⟩)]) ∧ w' = w.alloc (.cells #[.slice a k c] 22) := by
  refine callsIn_of_wp Tryd.func46 rfl hf ?_ hro
  simp only [Tryd.ntmps46, List.size_toArray, List.length_cons, List.length_nil, Nat.reduceAdd, Nat.reduceSub, Array.replicate_succ, Array.replicate_zero, List.push_toArray, List.append_toArray, List.nil_append, List.cons_append]
  gi_wp2
  go_ret
  exact ⟨rfl, rfl⟩
end Go.Proofs.YtbegplfijjbpcaaDoor.No
