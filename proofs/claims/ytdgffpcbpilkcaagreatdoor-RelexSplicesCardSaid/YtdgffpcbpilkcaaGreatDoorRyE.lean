/- What is read of a lexer: its text, its lines, how many; of none. The lines are gone through by a range over a function whose body keeps the lines' cells: the iterator's contract. A builder is written to: all but builders and bytes stays. All the bytes of a lexer. The tokens of some lines. A line's tokens; all tokens. What is read of no lexer. What the laws share: is a change known. -/
import Derived.Test.YtdgffpcbpilkcaaGreatDoorRyD
import Derived.Test.YtdgffpcbpilkcaaGreatDoorLxText
import Derived.Test.YtdgffpcbpilkcaaGreatDoorRyA
import Derived.RangeFuncNested
import Derived.RangeFuncBound
import Derived.RangeFuncCalls
import Derived.RangeFuncLeaves
import Derived.Shelf.Abstract
import Derived.Shelf.RegionOpen
import Derived.WalkKit
import Derived.OwnWalkIn
import Derived.TacticsInMore
import Derived.LoopNIn
import Derived.LoopIn
import Derived.Laws.AppendOwn
import Derived.Laws.AppendOwnNone
import Derived.Deep.AppendLies
import Derived.Deep.RegionWith
import Derived.Laws.StructEq
/- What is read of a lexer: its text, its lines, how many; of none. -/
namespace Go.Proofs.YtdgffpcbpilkcaaGreatDoor
open Go Go.RowKit Go.Shelf
attribute [local go_sem] Oper.semAt_some

/-- A lexer, or none: what stands at the pointer. -/
def LxO (W : World) (base : Nat) (p : Option Addr) (x : Option (Nat × Nat × List UInt8 × Nat)) : Prop :=
  match x with
  | none => p = none
  | some (X, b, T, n) => p = some ⟨X, 0, none⟩ ∧ Lx W base X b T n

theorem orEmpty_some (a : Addr) (W : World) :
    Calls Tryz.prog 33 #[.pointer (some a)] W fun e W' => e = .returned (.pointer (some a)) ∧ W' = W := by
  go_enter Tryz.func33, Tryz.ntmps33
  go_wp2_with fail
  go_ret
  exact ⟨rfl, rfl⟩
theorem orEmpty_nil (W : World) :
    Calls Tryz.prog 33 #[.pointer none] W fun e W' => e = .returned (.pointer (some ⟨W.heap.size, 0, none⟩)) ∧ W' = W.alloc (.cells #[.slice none 0 0, .int .i64 0] 65) := by
  go_enter Tryz.func33, Tryz.ntmps33
  go_wp2_with fail
  go_ret
  exact ⟨rfl, rfl⟩

/-- Lines(). -/
theorem xlines_c (W : World) (base X b : Nat) (T : List UInt8) (n : Nat) (h : Lx W base X b T n) :
    Calls Tryz.prog 18 #[.pointer (some ⟨X, 0, none⟩)] W fun e W' => e = .returned (.int .i64 (((splitL T).length : Nat) : Int)) ∧ W' = W := by
  obtain ⟨E, cap, h1, h2, h3, h4, h5, h6, h7, h8, h9, h10, h11⟩ := h.open
  have hl : E.length = (splitL T).length := by rw [← h3, List.length_map]
  have c := h1.cell 0
  simp at c
  rw [← hl]
  have hcl : E.length ≤ 4001 := h5
  clear h h1 h2 h3 h4 h7 h8 h9 h10 h11 hl h5
  go_enter Tryz.func18, Tryz.ntmps18
  go_wp2_with fail
  refine (orEmpty_some _ _).mono ?_
  rintro e w1 ⟨rfl, rfl⟩
  go_wp2_with fail
  go_ret
  exact ⟨rfl, rfl⟩
theorem xlines_nil (W : World) :
    Calls Tryz.prog 18 #[.pointer none] W fun e W' => e = .returned (.int .i64 0) ∧ Below W.heap.size W W' := by
  go_enter Tryz.func18, Tryz.ntmps18
  go_wp2_with fail
  refine (orEmpty_nil _).mono ?_
  rintro e w1 ⟨rfl, rfl⟩
  go_wp2_with fail
  go_ret
  exact ⟨rfl, (Below.refl _ W).alloc (Nat.le_refl _) _⟩
/-- Lexed(). -/
theorem lexed_c (W : World) (base X b : Nat) (T : List UInt8) (n : Nat) (h : Lx W base X b T n) :
    Calls Tryz.prog 17 #[.pointer (some ⟨X, 0, none⟩)] W fun e W' => e = .returned (.int .i64 (n : Int)) ∧ W' = W := by
  obtain ⟨E, cap, h1, _⟩ := h.ex
  have c := h1.cell 1
  simp at c
  clear h h1
  go_enter Tryz.func17, Tryz.ntmps17
  go_wp2_with fail
  refine (orEmpty_some _ _).mono ?_
  rintro e w1 ⟨rfl, rfl⟩
  go_wp2_with fail
  refine (load_c X n _ c).mono ?_
  rintro e w1 ⟨rfl, rfl⟩
  go_wp2_with fail
  go_ret
  exact ⟨rfl, rfl⟩
theorem lexed_nil (W : World) :
    Calls Tryz.prog 17 #[.pointer none] W fun e W' => e = .returned (.int .i64 0) ∧ Below W.heap.size W W' := by
  go_enter Tryz.func17, Tryz.ntmps17
  go_wp2_with fail
  refine (orEmpty_nil _).mono ?_
  rintro e w1 ⟨rfl, rfl⟩
  have hr := Row.new W 65 #[.slice none 0 0, .int .i64 0]
  go_wp2_with fail
  refine (load_c W.heap.size 0 _ (hr.cell 1)).mono ?_
  rintro e w1 ⟨rfl, rfl⟩
  go_wp2_with fail
  go_ret
  exact ⟨rfl, (Below.refl _ W).alloc (Nat.le_refl _) _⟩
end Go.Proofs.YtdgffpcbpilkcaaGreatDoor

/- The lines are gone through by a range over a function whose body keeps the lines' cells: the iterator's contract. -/
namespace Go.Proofs.YtdgffpcbpilkcaaGreatDoor
open Go Go.RowKit Go.Shelf
attribute [local go_sem] Oper.semAt_some

/-- WHAT A ROUND KEEPS: what lay below n₀; and lines that have been laid from n₁ on. -/
structure KeepE (n₀ n₁ : Nat) (W W' : World) : Prop where
  below : Below n₀ W W'
  cells : ∀ (k : Nat) (c : Array Value), n₁ ≤ k → Row W k 90 c → Row W' k 90 c
theorem KeepE.trans {n₀ n₁ : Nat} {X Y Z : World} (h : KeepE n₀ n₁ X Y) (k : KeepE n₀ n₁ Y Z) : KeepE n₀ n₁ X Z :=
  ⟨h.below.trans k.below, fun i c hi hc => k.cells i c hi (h.cells i c hi hc)⟩
theorem keepE_t {n₀ n₁ : Nat} {A B C : World} (h : KeepE n₀ n₁ A B) (k : KeepE n₀ n₁ B C) : KeepE n₀ n₁ A C := h.trans k
theorem KeepE.of {n₀ n₁ : Nat} {W W' : World} (h : Keeps n₀ n₁ W W') : KeepE n₀ n₁ W W' := ⟨h.below, fun k _ hk hc => h.cells k _ _ _ hk hc⟩
theorem keepE_b {n₀ n₁ : Nat} {w : World} (hn : n₀ ≤ w.heap.size) (W : World) (l : Nat) (o o' : Obj) (hl : w.heap.size ≤ l) (h : W.heap[l]? = some o) (hc : o.isCells = false) (hw : o.isWalk = false) : KeepE n₀ n₁ W (W.putObj l o') := KeepE.of (keeps_b hn W l o o' hl h hc hw)

set_option maxRecDepth 100000 in
set_option maxHeartbeats 2000000 in
/-- The iterator's closure: for every loop body that keeps what lay below n₀, and cells from n₁ on. -/
theorem leach1E_in (F : Fence) (n : Nat) (h38 : F.fn 65) (hro : F.round = none) (hn : 1 ≤ n) (l Bp n₀ n₁ X b len cap : Nat) (E : List Ln) (hb : b < n₀) (hE : E.length = len) (hlen : len ≤ 1000000) (hoff : bgE E len ≤ 1000000)
    (J Jx : List (Ix len) → World → Prop) (b₀ : Nat) (hJ : AbidesFrom b₀ J)
    (hY : ∀ pre x W, J pre W → pre.length < len → YieldAt F (n - 1) Tryz.prog l (encE E x) W fun e W' =>
      (e = .returned (.bool true) ∧ J (pre ++ [x]) W' ∧ KeepE n₀ n₁ W W') ∨ (e = .returned (.bool false) ∧ Jx (pre ++ [x]) W'))
    (W : World) (h01 : n₀ ≤ n₁) (hn1 : n₁ ≤ W.heap.size) (hBp : W.cell? ⟨Bp, 0, none⟩ = some (.pointer (some ⟨X, 0, none⟩))) (hB : W.cell? ⟨X, 0, none⟩ = some (.slice (some ⟨b, 0, none⟩) len cap)) (hc : ∀ j e, E[j]? = some e → W.cell? ⟨b, j * 2, none⟩ = some (.string (bs e.text)) ∧ W.cell? ⟨b, j * 2 + 1, none⟩ = some (.slice e.a e.l e.c)) (h0 : J [] W) :
    CallsIn F n Tryz.prog 65 #[.func (.yield l) #[] #[], .pointer (some ⟨Bp, 0, none⟩)] W fun e W' => (∃ v, e = .returned v) ∧
      ((∃ ys : List (Ix len), ys.map (·.1) = List.range len ∧ J ys W') ∨ (∃ pre : List (Ix len), (∃ k, k ≤ len ∧ pre.map (·.1) = List.range k) ∧ Jx pre W')) := by
  refine callsIn_of_wp Tryz.func65 rfl h38 ?_ hro
  simp only [Tryz.ntmps65, List.size_toArray, List.length_cons, List.length_nil, Nat.reduceAdd, Nat.reduceSub, Array.replicate_succ, Array.replicate_zero, List.push_toArray, List.append_toArray, List.nil_append, List.cons_append]
  have HC := Lib.hid hc
  clear hc
  gi_wp2
  gi_loopw [3, 5, 11] (fun f _ i wr => ∃ (k : Nat) (pre : List (Ix len)), k ≤ len ∧ i = .int .i64 k ∧ f = .int .i64 (bgE E k : Int) ∧ pre.map (·.1) = List.range k ∧ J pre wr ∧ Below n₀ W wr ∧ n₁ ≤ wr.heap.size)
    (fun _ _ i _ => len - (intOf i).toNat)
  case atStart => exact ⟨0, [], Nat.zero_le _, rfl, by rw [bgE_zero]; rfl, rfl, h0, Below.refl _ _, hn1⟩
  case round =>
    obtain ⟨k, pre, hk, rfl, rfl, hpre, hJs, hnx, hwr⟩ := hrel
    by_cases hlt : k < len
    · obtain ⟨x0, x1⟩ := HC.out k _ (lnAt_of (by omega))
      obtain ⟨S, hS⟩ : ∃ S, S = bs (lnAt E k).text := ⟨_, rfl⟩
      obtain ⟨ka, hka⟩ : ∃ a, a = (lnAt E k).a := ⟨_, rfl⟩
      obtain ⟨kl, hkl⟩ : ∃ a, a = (lnAt E k).l := ⟨_, rfl⟩
      obtain ⟨kc, hkc⟩ : ∃ a, a = (lnAt E k).c := ⟨_, rfl⟩
      have hss : S.size = (lnAt E k).text.length := by rw [hS, bs_size]
      have hJa : J pre (wr.alloc (.cells #[.string S, .slice ka kl kc] 90)) := hJ _ _ _ none hJs (World.grownBy_alloc wr _ none) (fun r e => by cases e)
      have hyy := hY _ ⟨k, hlt⟩ _ hJa (by rw [(inOrder_of hpre).2]; exact hlt)
      unfold encE at hyy
      dsimp only at hyy
      rw [← hS, ← hka, ← hkl, ← hkc] at hyy
      rw [← hS] at x0
      rw [← hka, ← hkl, ← hkc] at x1
      obtain ⟨fn, tmps, assign, body, hy, hR⟩ := hyy
      have c0 := (hnx.cell (p := ⟨b, k * 2, none⟩) hb).trans x0
      have c1 := (hnx.cell (p := ⟨b, k * 2 + 1, none⟩) hb).trans x1
      have hbs := bgE_succ (E := E) (k := k) (by omega)
      rw [← hss] at hbs
      have hok : bgE E k + (S.size + 1) ≤ 1000000 := by rw [← hbs]; exact Nat.le_trans (bgE_le E (show k + 1 ≤ len from hlt)) hoff
      have HBS := Lib.hid hbs
      have HP : Hid ((pre ++ [(⟨k, hlt⟩ : Ix len)]).map (·.1) = List.range (k + 1)) := range_snoc hpre hlt
      have HQ : Hid (pre.map (·.1) = List.range k) := hpre
      clear hpre x0 x1 hS hka hkl hkc hss hbs
      obtain ⟨f, hf⟩ : ∃ f, f = bgE E k := ⟨_, rfl⟩
      rw [← hf] at hok hy ⊢
      have HF := Lib.hid hf
      clear hf
      gi_wp2
      refine hR.mono ?_
      rintro e W3 (⟨rfl, hJ3, hk3⟩ | ⟨rfl, hJx3⟩)
      · have hbx : Row W3 wr.heap.size 90 #[.string S, .slice ka kl kc] := hk3.cells _ _ hwr (Row.new wr _ _)
        have d0 := hbx.cell 0
        have d1 := hbx.cell 1
        simp at d0 d1
        gi_wp2
        go_roundw
        case rel => exact ⟨k + 1, pre ++ [⟨k, hlt⟩], by omega, by simp, by rw [HBS.out, ← HF.out]; simp, HP.out, hJ3, (hnx.alloc (by omega) _).trans hk3.below, by have := hk3.below.size; simp at this; omega⟩
        case measure => simp [intOf]; omega
      · gi_wp2
        refine bodyPost_ret (results_none rfl _ _ _) rfl ?_
        exact ⟨⟨_, rfl⟩, .inr ⟨_, ⟨k + 1, by omega, HP.out⟩, hJx3⟩⟩
    · obtain rfl : k = len := by omega
      have HQ : Hid (pre.map (·.1) = List.range k) := hpre
      clear hpre
      gi_wp2
      go_end0
      exact ⟨⟨_, rfl⟩, .inl ⟨pre, HQ.out, hJs⟩⟩

/-- l.each() hands back a value that goes through all lines, each with its place; or through the first k of them. -/
theorem leachE_stops (F : Fence) (n : Nat) (h38 : F.fn 65) (hro : F.round = none) (hn : 1 ≤ n) (Bp n₀ n₁ X b len cap : Nat) (E : List Ln) (hE : E.length = len) (hlen : len ≤ 1000000) (hoff : bgE E len ≤ 1000000) (hb : b < n₀)
    (w : World) (h01 : n₀ ≤ n₁) (hn1 : n₁ ≤ w.heap.size) (hBp : Bp < w.heap.size) (cBp : w.cell? ⟨Bp, 0, none⟩ = some (.pointer (some ⟨X, 0, none⟩))) (hX : X < n₀) (cX : w.cell? ⟨X, 0, none⟩ = some (.slice (some ⟨b, 0, none⟩) len cap)) (hc : ∀ j e, E[j]? = some e → w.cell? ⟨b, j * 2, none⟩ = some (.string (bs e.text)) ∧ w.cell? ⟨b, j * 2 + 1, none⟩ = some (.slice e.a e.l e.c)) :
    SeqStopsK F n Tryz.prog 65 #[.pointer (some ⟨Bp, 0, none⟩)] (encE E) (KeepE n₀ n₁) (fun ys : List (Ix len) => ys.map (·.1) = List.range len)
      (fun pre => ∃ k, k ≤ len ∧ pre.map (·.1) = List.range k) len w := fun l J Jx W hW hJ _ hY h0 => by
  have c1 := (hW.cell (p := ⟨Bp, 0, none⟩) hBp).trans cBp
  have c2 := (hW.cell (p := ⟨X, 0, none⟩) (by show X < _; omega)).trans cX
  exact leach1E_in F n h38 hro hn l Bp n₀ n₁ X b len cap E hb hE hlen hoff J Jx _ hJ hY W h01 (Nat.le_trans hn1 hW.size) c1 c2 (fun j e hj => ⟨(hW.cell (p := ⟨b, j * 2, none⟩) (by show b < _; omega)).trans (hc j e hj).1, (hW.cell (p := ⟨b, j * 2 + 1, none⟩) (by show b < _; omega)).trans (hc j e hj).2⟩) h0
end Go.Proofs.YtdgffpcbpilkcaaGreatDoor

/- A builder is written to: all but builders and bytes stays. -/
namespace Go.Proofs.YtdgffpcbpilkcaaGreatDoor
open Go Go.RowKit Go.Shelf
attribute [local go_sem] Oper.semAt_some

structure KeepW (W W' : World) : Prop where
  size : W.heap.size ≤ W'.heap.size
  same : ∀ (k : Nat) (o : Obj), W.heap[k]? = some o → (∀ c, o ≠ .cells c 95 (0, 0)) → (∀ c, o ≠ .cells c 5 (0, 0)) → W'.heap[k]? = some o
theorem KeepW.refl (W : World) : KeepW W W := ⟨Nat.le_refl _, fun _ _ h _ _ => h⟩
theorem KeepW.trans {A B C : World} (h : KeepW A B) (k : KeepW B C) : KeepW A C := ⟨Nat.le_trans h.size k.size, fun i o ho h1 h2 => k.same i o (h.same i o ho h1 h2) h1 h2⟩
theorem KeepW.set {W : World} {b i : Nat} {c : Array Value} (h : W.heap[b]? = some (.cells c 95 (0, 0))) (v : Value) : KeepW W (W.setCell ⟨b, i, none⟩ v) :=
  ⟨by rw [World.size_setCell]; exact Nat.le_refl _, fun k o ho h1 _ => by
    by_cases hk : k = b
    · subst hk; rw [h] at ho; cases ho; exact absurd rfl (h1 c)
    · exact (Below.heap_setCell W ⟨b, i, none⟩ v k hk).trans ho⟩
theorem KeepW.grown {W W' : World} {base n : Nat} {v : Value} {xs : List Value} (ho : W.ownsRow base 5 1 v n xs) (hg : W.grownBy W' v.ownBlock) : KeepW W W' :=
  ⟨hg.size, fun k o hk _ h2 => (hg.block k (Array.getElem?_eq_some_iff.1 hk).1 (fun e => by
    rcases ho.2 with ⟨e1, _⟩ | ⟨g, cap, cur, e1, _, e3, _⟩
    · rw [e1] at e; cases e
    · rw [e1] at e; cases e; rw [e3] at hk; cases hk; exact h2 _ rfl)).trans hk⟩
theorem KeepW.others {W W' : World} (h : KeepW W W') (B : Nat) : KeepsFrom B W W' := ⟨h.size, fun k o _ ho hc => h.same k o ho (fun c e => by subst e; cases hc) (fun c e => by subst e; cases hc)⟩
theorem KeepW.row {W W' : World} (h : KeepW W W') {k : Nat} {c : Array Value} (hr : Row W k 90 c) : Row W' k 90 c := h.same k _ hr (fun c e => by cases e) (fun c e => by cases e)

theorem wcheck_k (B b : Nat) (l : List Value) (w : World) (h : IsB B b l w) :
    Calls Tryz.prog 66 #[.pointer (some ⟨b, 0, none⟩)] w fun e w' => e = .returned (.tuple #[]) ∧ (Lib.BuilderAt 95 5 B b (.pointer (some ⟨b, 0, none⟩)) l w' ∧ Below B w w' ∧ KeepW w w') := by
  rcases h with h | h
  · refine (check_fresh b w h.cell0 h.shape h.frozen0).mono ?_
    rintro e w' ⟨rfl, rfl⟩
    have h9 := h
    obtain ⟨_, v, hb, _⟩ := h9
    exact ⟨rfl, Lib.BuilderAt.used h _, (Below.refl B w).setCell (p := ⟨b, 0, none⟩) h.1 _, KeepW.set hb _⟩
  · refine (check_used b w h.cell0).mono ?_
    rintro e w' ⟨rfl, rfl⟩
    exact ⟨rfl, h, Below.refl B _, KeepW.refl _⟩

set_option maxHeartbeats 2000000 in
set_option maxRecDepth 100000 in
theorem wwrite_k (B b : Nat) (l : List Value) (s : ByteArray) (w : World) (h : IsB B b l w) (hlen : l.length + s.size ≤ 140737488355328) (hBw : B ≤ w.heap.size) :
    Calls Tryz.prog 46 #[.pointer (some ⟨b, 0, none⟩), .string s] w fun e w' => e = .returned (.tuple #[.int .i64 s.size, .nilIface]) ∧ IsB B b (l ++ Lib.strCells s) w' ∧ Below B w w' ∧ KeepW w w' := by
  obtain ⟨i0, hi, hz0, hz1, hz2⟩ := byte_parts
  go_enter Tryz.func46, Tryz.ntmps46
  go_wp2_with fail
  refine (wcheck_k B b l _ h).mono ?_
  rintro e w1 ⟨rfl, h1, hb1, hk1⟩
  obtain ⟨hB, v, hbk, hown, hne⟩ := h1
  have HK1 := Lib.hid hk1
  clear hk1
  have c0 : w1.cell? ⟨b, 0, none⟩ = some (.pointer (some ⟨b, 0, none⟩)) := by rw [Lib.cell_of_heap hbk]; rfl
  have c1 : w1.cell? ⟨b, 1, none⟩ = some v := by rw [Lib.cell_of_heap hbk]; rfl
  go_wp2_with (at_builtin; refine Lib.wpList_append_own_string _ rfl _ _ 93 9 rfl B 5 i0 Tryz.underlying93 Tryz.underlying9 hi hz0 hz1 hz2 _ _ _ rfl hown s rfl ?c3 ?c4 ?c5 ?_)
  case c3 => unfold maxLen; omega
  case c4 => omega
  case c5 => have := hb1.size; omega
  intro v' w2 hown' hgrow _
  have hlt : b < w1.heap.size := by
    rcases Nat.lt_or_ge b w1.heap.size with h' | h'
    · exact h'
    · simp [Array.getElem?_eq_none h'] at hbk
  have hb2 : w2.heap[b]? = some (.cells #[.pointer (some ⟨b, 0, none⟩), v] 95 (0, 0)) := by
    rw [hgrow.block b hlt (fun e => hne e.symm)]
    exact hbk
  have d0 : w2.cell? ⟨b, 0, none⟩ = some (.pointer (some ⟨b, 0, none⟩)) := by rw [Lib.cell_of_heap hb2]; rfl
  have d1 : w2.cell? ⟨b, 1, none⟩ = some v := by rw [Lib.cell_of_heap hb2]; rfl
  have f1 : w2.frozen? ⟨b, 1, none⟩ = false := Lib.frozen_of_heap hb2 1
  obtain ⟨ao, n', cap, rfl⟩ : ∃ ao n' cap, v' = .slice ao n' cap := by
    rcases hown'.2 with ⟨hv, _⟩ | ⟨g, cap, cur, hv, _⟩
    · exact ⟨_, _, _, hv⟩
    · exact ⟨_, _, _, hv⟩
  go_wp2
  go_ret2
  refine ⟨rfl, .inr ?_, ?_, ?_⟩
  · exact Lib.BuilderAt.put (T := 95) (e := 5) hB hb2 (bs' := l ++ Lib.strCells s) (by simpa [Lib.strCells_length] using hown') (by decide)
  · exact (hb1.grown hgrow (by have := hb1.size; omega) (fun k hk => (hown.lt k hk).1)).setCell (p := ⟨b, 1, none⟩) hB _
  · exact HK1.out.trans ((KeepW.grown hown hgrow).trans (KeepW.set hb2 _))

/-- A builder over what others do. -/
theorem isB_kept {B b : Nat} {l : List Value} {X Y : World} {row : Option Nat} (h : IsB B b l X) (hg : X.grownBy Y row) (hr : ∀ r, row = some r → ∃ o : Obj, X.heap[r]? = some o ∧ o.isCells = false) : IsB B b l Y := by
  have go : ∀ p, Lib.BuilderAt 95 5 B b p l X → Lib.BuilderAt 95 5 B b p l Y := fun p h => by
    obtain ⟨hB, v, hb, hown, hne⟩ := h
    have key : ∀ (k : Nat) (c : Array Value) (t : TypeId), X.heap[k]? = some (.cells c t (0, 0)) → Y.heap[k]? = some (.cells c t (0, 0)) := fun k c t hk => (hg.block k (Array.getElem?_eq_some_iff.1 hk).1 (fun e => by
      obtain ⟨o, ho, hc⟩ := hr k e.symm
      rw [hk] at ho; cases ho; cases hc)).trans hk
    refine ⟨hB, v, key _ _ _ hb, ?_, hne⟩
    refine ⟨hown.1, ?_⟩
    rcases hown.2 with hn | ⟨g, cap, cur, e1, e2, e3, e4⟩
    · exact .inl hn
    · exact .inr ⟨g, cap, cur, e1, e2, key _ _ _ e3, e4⟩
  rcases h with h | h
  · exact .inl (go _ h)
  · exact .inr (go _ h)
theorem isB_new (w : World) : IsB w.heap.size w.heap.size [] (w.alloc (.cells #[.pointer none, .slice none 0 0] 95)) :=
  .inl ⟨Nat.le_refl _, .slice none 0 0, World.alloc_heap_new w _, World.ownsRow_nil _ _ _ _, by simp [Value.ownBlock]⟩
theorem isB_alloc {B b : Nat} {l : List Value} {w : World} (h : IsB B b l w) (o : Obj) : IsB B b l (w.alloc o) := isB_kept h (World.grownBy_alloc w o none) (fun r e => by cases e)
end Go.Proofs.YtdgffpcbpilkcaaGreatDoor

/- All the bytes of a lexer. -/
namespace Go.Proofs.YtdgffpcbpilkcaaGreatDoor
open Go Go.RowKit Go.Shelf
attribute [local go_sem] Oper.semAt_some

/-- The first k lines, joined. -/
def joinK (E : List Ln) (k : Nat) : List UInt8 := joinL ((E.map (·.text)).take k)
theorem joinK_zero (E : List Ln) : joinK E 0 = [] := by simp [joinK, joinL]
theorem joinK_one {E : List Ln} (h : 0 < E.length) : joinK E 1 = (lnAt E 0).text := by
  have h1 : (E.map (·.text))[0]? = some (lnAt E 0).text := by rw [List.getElem?_map, lnAt_of h]; rfl
  unfold joinK
  rw [List.take_add_one, h1]
  simp [joinL]
theorem joinK_succ {E : List Ln} {k : Nat} (h : k < E.length) (h0 : 0 < k) : joinK E (k + 1) = joinK E k ++ ([10] ++ (lnAt E k).text) := by
  have h1 : (E.map (·.text))[k]? = some (lnAt E k).text := by rw [List.getElem?_map, lnAt_of h]; rfl
  unfold joinK
  rw [List.take_add_one, h1]
  rw [show (some (lnAt E k).text).toList = [(lnAt E k).text] from rfl, joinL_app _ _ (fun e => by
    have h9 : ((E.map (·.text)).take k).length = 0 := by rw [e]; rfl
    rw [List.length_take, List.length_map] at h9
    omega) (by simp)]
  rfl
theorem joinK_all {E : List Ln} {T : List UInt8} (h : E.map (·.text) = splitL T) : joinK E E.length = T := by
  unfold joinK
  rw [h, List.take_of_length_le (by rw [← h, List.length_map]; exact Nat.le_refl _), join_split]
theorem bgE_pos {E : List Ln} {k : Nat} (h : k < E.length) : bgE E k = 0 ↔ k = 0 := by
  constructor
  · intro e
    cases k with
    | zero => rfl
    | succ k => rw [bgE_succ (by omega)] at e; omega
  · rintro rfl; exact bgE_zero E

set_option maxRecDepth 100000 in
set_option maxHeartbeats 4000000 in
theorem ltext_c (w : World) (base X b : Nat) (T : List UInt8) (n : Nat) (h : Lx w base X b T n) :
    Calls Tryz.prog 34 #[.pointer (some ⟨X, 0, none⟩)] w fun e W' => e = .returned (.string (bs T)) ∧ Below w.heap.size w W' := by
  obtain ⟨E, cap, h1, h2, h3, h4, h5, h6, h7, h8, h9, hb, hc⟩ := h.open
  have hsm := h.small
  have hX := h1.lt
  have cX := h1.cell 0
  simp at cX
  have hall := joinK_all h3
  have HC := Lib.hid hc
  have HALL := Lib.hid hall
  obtain ⟨len, hlen⟩ : ∃ l, l = E.length := ⟨_, rfl⟩
  have hE := hlen.symm
  rw [hE] at cX h5 h7 HALL
  have hoff : bgE E len ≤ 1000000 := by omega
  have hlb : len ≤ 1000000 := by omega
  clear hc hall h h1 h2 h3 h4 h6 h8 h9 hlen
  refine (callsIn_wide (n := 5)).1 ?_
  refine callsIn_of_wp_marks Tryz.func34 rfl trivial ?_ rfl
  simp only [Tryz.ntmps34, List.size_toArray, List.length_cons, List.length_nil, Nat.reduceAdd, Nat.reduceSub, Array.replicate_succ, Array.replicate_zero, List.push_toArray, List.append_toArray, List.nil_append, List.cons_append]
  gi_wp2_with (refine ⟨trivial, ?_⟩; gi_at_call 45; refine (leach_in _ 4 trivial rfl _ _).mono ?_; rintro e w' ⟨rfl, rfl⟩)
  have bB := isB_alloc (isB_new w) (.cells #[.pointer (some ⟨X, 0, none⟩)] 81)
  have bP := Boxed.new (w.alloc (.cells #[.pointer none, .slice none 0 0] 95)) 81 (.pointer (some ⟨X, 0, none⟩))
  simp only [World.size_alloc] at bP
  have hB0 : Below w.heap.size w ((w.alloc (.cells #[.pointer none, .slice none 0 0] 95)).alloc (.cells #[.pointer (some ⟨X, 0, none⟩)] 81)) := ((Below.refl _ w).alloc (Nat.le_refl _) _).alloc (by simp) _
  have hsz : ((w.alloc (.cells #[.pointer none, .slice none 0 0] 95)).alloc (.cells #[.pointer (some ⟨X, 0, none⟩)] 81)).heap.size = w.heap.size + 2 := by simp
  obtain ⟨W0, hW0⟩ : ∃ W0, (w.alloc (.cells #[.pointer none, .slice none 0 0] 95)).alloc (.cells #[.pointer (some ⟨X, 0, none⟩)] 81) = W0 := ⟨_, rfl⟩
  rw [hW0] at bB bP hB0 hsz ⊢
  clear hW0
  refine wpIn_rangeFunc_ownH rfl (by omega) (gf := 65) (lb := #[.pointer (some ⟨w.heap.size + 1, 0, none⟩)]) rfl trivial (enters_of Tryz.func65 (by kernel_rfl) rfl)
    (leachE_stops _ 4 trivial rfl (by omega) (w.heap.size + 1) w.heap.size W0.heap.size X b len cap E hE hlb hoff hb W0 (by omega) (Nat.le_refl _) (by omega) bP.cell hX ((hB0.cell (p := ⟨X, 0, none⟩) hX).trans cX) (fun j e hj => ⟨(hB0.cell (p := ⟨b, j * 2, none⟩) hb).trans (HC.out j e hj).1, (hB0.cell (p := ⟨b, j * 2 + 1, none⟩) hb).trans (HC.out j e hj).2⟩)) keepE_t (keepE_b (by omega)) (Below.refl _ _) (fun _ => rfl)
    (fun pre W => (∃ D : List UInt8, D.length ≤ pre.length * 1000001 ∧ IsB w.heap.size w.heap.size (Lib.byteCells D) W ∧ (InOrder pre → D = joinK E pre.length)) ∧ Below w.heap.size w W)
    (fun _ _ _ => False)
    (OwnFrom.and (Own.from (fun s X Y row hs hg hr => by obtain ⟨m, h1, hb, h2⟩ := hs; exact ⟨m, h1, isB_kept hb hg hr, h2⟩) _) (ownFrom_below (Nat.le_refl _) (by omega)))
    (fun _ _ _ _ _ hs _ _ => hs)
    ⟨⟨[], by simp, bB, fun _ => (joinK_zero E).symm⟩, hB0⟩
    (fun x a' W => ∃ Bx, Row W Bx 90 (lnC (lnAt E x.1)) ∧ a' = { tmps := #[.pointer (some ⟨X, 0, none⟩), undef, .string ⟨#[]⟩, .pointer (some ⟨w.heap.size, 0, none⟩), .int .i64 (bgE E x.1 : Int), .pointer (some ⟨Bx, 0, none⟩), .pointer (some ⟨X, 0, none⟩), .func (.func 65) #[] #[.pointer (some ⟨w.heap.size + 1, 0, none⟩)], .int .i64 (bgE E x.1 : Int), .agg (lnC (lnAt E x.1)), undef, undef, undef, undef, undef, undef, undef], defers := [] })
    (fun x a' _ X Y row hs hg hr => by obtain ⟨Bx, h2, h3⟩ := hs; exact ⟨Bx, h2.kept hg (fun r e => (hr r e).2), h3⟩)
    ?assign ?body ?done ?stop
  case assign =>
    rintro l pre x W K ⟨⟨D, hD, hI, hin⟩, hB1⟩ hK
    dsimp only [encE]
    gi_wp2
    have hs := hB1.size
    exact hK _ _ ((KeepsOthers.alloc _ _).from _) (KeepE.of (Keeps.alloc W hs _)) ⟨⟨D, hD, isB_alloc hI _, hin⟩, hB1.alloc hs _⟩ ⟨W.heap.size, Row.new W 90 _, rfl⟩
  case body =>
    rintro l pre x a' W hl ⟨r, hr⟩ ⟨⟨D, hD, hI, hin⟩, hB1⟩ ⟨Bx, bX, rfl⟩ hlt
    have hx2 : x.1 < E.length := by rw [hE]; exact x.2
    have hbs := bgE_succ hx2
    have hok : bgE E (x.1 + 1) ≤ 1000000 := Nat.le_trans (bgE_le E (show x.1 + 1 ≤ len from x.2)) hoff
    have hpos := bgE_pos hx2
    have cX0 := bX.cell 0
    unfold lnC at cX0 ⊢
    simp at cX0
    obtain ⟨S, hS⟩ : ∃ S, S = bs (lnAt E x.1).text := ⟨_, rfl⟩
    have hss : S.size = (lnAt E x.1).text.length := by rw [hS, bs_size]
    have hsd : S.data.toList = (lnAt E x.1).text := by rw [hS, bs_list]
    have hs1 : S.size ≤ 1000000 := by omega
    have hpl : pre.length ≤ 1000000 := by omega
    have hDl : D.length ≤ 1000000 * 1000001 := Nat.le_trans hD (Nat.mul_le_mul_right _ hpl)
    rw [← hS] at cX0 ⊢
    obtain ⟨f, hf⟩ : ∃ f, f = bgE E x.1 := ⟨_, rfl⟩
    rw [← hf] at hpos hbs ⊢
    have HIN := Lib.hid hin
    have HB := Lib.hid hB1
    have HI := Lib.hid hI
    have HSD := Lib.hid hsd
    have HD := Lib.hid hD
    have HX := Lib.hid bX
    have HPO := Lib.hid hpos
    have HWR := Lib.hid (fun (W1 : World) (D1 : List UInt8) (s : ByteArray) (h1 : IsB w.heap.size w.heap.size (Lib.byteCells D1) W1) (h2 : Below w.heap.size w W1) (h3 : D1.length + s.size ≤ 140737488355328) => wwrite_k w.heap.size w.heap.size _ s W1 h1 (by rw [Lib.byteCells_length]; exact h3) h2.size)
    have HS := Lib.hid hS
    clear hS hss hsd hin hB1 hI hD hbs hok hf hpos
    by_cases h0 : x.1 = 0
    · have hf0 : f = 0 := HPO.out.2 h0
      subst hf0
      have hw1 := HWR.out W D S HI.out HB.out (by omega)
      have HW1 := Lib.hid hw1
      clear hw1
      gi_wp2
      refine ⟨trivial, ?_⟩
      refine (callsIn_wide.2 HW1.out).mono ?_
      rintro e w3 ⟨rfl, hi3, hb3, hk3⟩
      gi_wp2
      refine ⟨hk3.others _, ⟨hb3, fun k c _ hc => hk3.row hc⟩, ⟨D ++ S.data.toList, ?_, ?_, fun h => ?_⟩, HB.out.trans hb3⟩
      · have h9 := HD.out
        rw [List.length_append, List.length_append, List.length_singleton, ← Lib.size_eq, Nat.add_mul]
        omega
      · rw [Lib.byteCells_append, ← Lib.strCells_eq]
        exact hi3
      · obtain ⟨h3, h2⟩ := inOrder_snoc.1 h
        have h4 := HIN.out h3
        rw [← h2, h0, joinK_zero] at h4
        rw [h4, List.length_append, ← h2, h0, HSD.out, h0]
        exact (joinK_one (by omega)).symm
    · have hf0 : 0 < f := by have := HPO.out; omega
      have hw1 := HWR.out W D ⟨#[10]⟩ HI.out HB.out (by have : (⟨#[10]⟩ : ByteArray).size = 1 := rfl; omega)
      have HW1 := Lib.hid hw1
      clear hw1
      gi_wp2
      refine ⟨trivial, ?_⟩
      refine (callsIn_wide.2 HW1.out).mono ?_
      rintro e w3 ⟨rfl, hi3, hb3, hk3⟩
      have hi3' : IsB w.heap.size w.heap.size (Lib.byteCells (D ++ [10])) w3 := by rw [Lib.byteCells_append]; exact hi3
      have HW2 := Lib.hid (HWR.out w3 (D ++ [10]) S hi3' (HB.out.trans hb3) (by rw [List.length_append, List.length_singleton]; omega))
      have hx3 := hk3.row HX.out
      have cX0 := hx3.cell 0
      unfold lnC at cX0
      simp at cX0
      rw [← HS.out] at cX0
      have HB3 := Lib.hid (HB.out.trans hb3)
      have HK3 := Lib.hid hk3
      have HBB := Lib.hid hb3
      clear hi3 hi3' hb3 hk3 hx3 HW1
      gi_wp2
      refine ⟨trivial, ?_⟩
      refine (callsIn_wide.2 HW2.out).mono ?_
      rintro e w4 ⟨rfl, hi4, hb4, hk4⟩
      gi_wp2
      have hk := HK3.out.trans hk4
      refine ⟨hk.others _, ⟨HBB.out.trans hb4, fun k c _ hc => hk.row hc⟩, ⟨D ++ [10] ++ S.data.toList, ?_, ?_, fun h => ?_⟩, HB3.out.trans hb4⟩
      · have h9 := HD.out
        rw [List.length_append, List.length_append, List.length_append, List.length_singleton, List.length_singleton, ← Lib.size_eq, Nat.add_mul]
        omega
      · rw [Lib.byteCells_append, ← Lib.strCells_eq]
        exact hi4
      · obtain ⟨h3, h2⟩ := inOrder_snoc.1 h
        have h4 := HIN.out h3
        rw [h4, List.length_append, List.length_singleton, ← h2, HSD.out, List.append_assoc]
        exact (joinK_succ hx2 (by omega)).symm
  case done =>
    rintro D zs W hD hz ⟨⟨D', hD', hI, hin⟩, hB1⟩ hK
    obtain ⟨hi1, hi2⟩ := inOrder_of hz
    obtain rfl : D' = joinK E len := by rw [hin hi1, hi2]
    rw [HALL.out] at hI
    have HE := Lib.hid (Tryz.Builder_String_any_k w.heap.size w.heap.size _ _ (Lib.IsBuilderF.of hI) hB1.size)
    have HB := Lib.hid hB1
    have HK := Lib.hid hK
    clear hz hin hi2 hi1 hI hD' hK hB1
    gi_wp2
    refine ⟨trivial, ?_⟩
    refine (callsIn_wide.2 HE.out).mono ?_
    rintro e w2 ⟨rfl, _, hb2, ho2⟩
    have hK2 : w2.heap[D]? = some (.deferred (some [])) := ho2 D _ HK.out (fun e => by
      have h9 : w.heap.size < W0.heap.size := by omega
      have h8 := Option.some.inj e
      omega) (fun c fz e => by cases e)
    gi_wp2
    refine ⟨by simp, .inl ⟨_, _, rfl, run_takeDeferred hK2, ?_⟩⟩
    exact ⟨_, results_tmp rfl _ _ _, rfl, (HB.out.trans hb2).trans (belowK_b (w := w) (Nat.le_refl _) w2 D _ _ (by omega) hK2 rfl rfl)⟩
  case stop =>
    rintro D c pre W _ _ h _
    exact h.elim

/-- Text(). -/
theorem xtext_c (W : World) (base X b : Nat) (T : List UInt8) (n : Nat) (h : Lx W base X b T n) :
    Calls Tryz.prog 16 #[.pointer (some ⟨X, 0, none⟩)] W fun e W' => e = .returned (.string (bs T)) ∧ Below W.heap.size W W' := by
  have HT := Lib.hid (ltext_c W base X b T n h)
  clear h
  go_enter Tryz.func16, Tryz.ntmps16
  go_wp2_with fail
  refine (orEmpty_some _ _).mono ?_
  rintro e w1 ⟨rfl, rfl⟩
  go_wp2_with fail
  refine HT.out.mono ?_
  rintro e w1 ⟨rfl, hb⟩
  go_wp2_with fail
  go_ret
  exact ⟨rfl, hb⟩
end Go.Proofs.YtdgffpcbpilkcaaGreatDoor

/- The tokens of some lines. -/
namespace Go.Proofs.YtdgffpcbpilkcaaGreatDoor
open Go Go.RowKit Go.Shelf
attribute [local go_sem] Oper.semAt_some

/-- A line end's token; lines' tokens, with one between two. -/
def endTk : Tk := ⟨11, [10], []⟩
def toksJ : List (List UInt8) → List Tk
  | [] => []
  | [x] => toks st x 0
  | x :: y :: r => toks st x 0 ++ endTk :: toksJ (y :: r)
theorem toksJ_snoc : ∀ (A : List (List UInt8)) (x : List UInt8), A ≠ [] → toksJ (A ++ [x]) = toksJ A ++ (endTk :: toks st x 0)
  | [], _, h => absurd rfl h
  | [y], x, _ => rfl
  | y :: z :: r, x, _ => by
    show toks st y 0 ++ endTk :: toksJ (z :: (r ++ [x])) = _
    have := toksJ_snoc (z :: r) x (by simp)
    rw [List.cons_append] at this
    rw [this]
    simp [toksJ]
theorem toksJ_len : ∀ (A : List (List UInt8)), (toksJ A).length ≤ (A.map fun x => x.length + 1).sum
  | [] => Nat.le_refl _
  | [x] => by
    have := toks_len st st_ok x.length x (Nat.le_refl _)
    simp [toksJ]; omega
  | x :: y :: r => by
    have h1 := toks_len st st_ok x.length x (Nat.le_refl _)
    have h2 := toksJ_len (y :: r)
    show (toks st x 0 ++ endTk :: toksJ (y :: r)).length ≤ ((x.length + 1) :: ((y :: r).map fun x => x.length + 1)).sum
    rw [List.length_append, List.length_cons, List.sum_cons]
    omega
theorem sum_take_le (l : List Nat) (k : Nat) : (l.take k).sum ≤ l.sum := by
  have h : l.sum = (l.take k).sum + (l.drop k).sum := by rw [← List.sum_append, List.take_append_drop]
  omega
theorem sum_drop_le (l : List Nat) (k : Nat) : (l.drop k).sum ≤ l.sum := by
  have h : l.sum = (l.take k).sum + (l.drop k).sum := by rw [← List.sum_append, List.take_append_drop]
  omega
/-- The tokens of a part of a text's lines. -/
def toksP (E : List Ln) (f k : Nat) : List Tk := toksJ (((E.map (·.text)).drop f).take k)
theorem toksP_zero (E : List Ln) (f : Nat) : toksP E f 0 = [] := by simp [toksP, toksJ]
theorem toksP_len (E : List Ln) (f k : Nat) : (toksP E f k).length ≤ bgE E E.length := by
  have h := toksJ_len (((E.map (·.text)).drop f).take k)
  unfold toksP bgE begL
  rw [show E.length = (E.map (·.text)).length by simp, List.take_length]
  refine Nat.le_trans h ?_
  rw [List.map_take, List.map_drop]
  exact Nat.le_trans (sum_take_le _ _) (sum_drop_le _ _)
theorem toksP_get {E : List Ln} {f k : Nat} (h : f + k < E.length) : ((E.map (·.text)).drop f)[k]? = some (lnAt E (f + k)).text := by
  rw [List.getElem?_drop, List.getElem?_map, lnAt_of h]
  rfl
theorem toksP_one {E : List Ln} {f : Nat} (h : f < E.length) : toksP E f 1 = toks st (lnAt E f).text 0 := by
  unfold toksP
  rw [List.take_add_one, toksP_get (by omega)]
  simp [toksJ]
theorem toksP_succ {E : List Ln} {f k : Nat} (h : f + k < E.length) (h0 : 0 < k) : toksP E f (k + 1) = (toksP E f k ++ [endTk]) ++ toks st (lnAt E (f + k)).text 0 := by
  unfold toksP
  rw [List.take_add_one, toksP_get h]
  rw [show (some (lnAt E (f + k)).text).toList = [(lnAt E (f + k)).text] from rfl, toksJ_snoc _ _ (fun e => by
    have h9 : (((E.map (·.text)).drop f).take k).length = 0 := by rw [e]; rfl
    rw [List.length_take, List.length_drop, List.length_map] at h9
    omega)]
  simp
theorem cellsL_app (A B : List Tk) : cellsL (A ++ B) = cellsL A ++ cellsL B := by simp [cellsL]
theorem cellsL_end : cellsL [endTk] = [.int .i64 11, .string ⟨#[10]⟩, .string ⟨#[]⟩] := rfl
theorem cellsL_one (L : List Tk) : ∀ u ∈ cellsL L, u.oneCell' = true := by
  intro u hu
  obtain ⟨t, _, h⟩ := List.mem_flatMap.1 hu
  exact tokL_one t u h

/-- A line's tokens where they lie. -/
theorem toked_at {W : World} {base : Nat} {a : Option Addr} {l c : Nat} {L : List Tk} (h : OwnL W base (.slice a l c) L) :
    (a = none ∧ l = 0 ∧ c = 0 ∧ L = []) ∨ ∃ g, a = some ⟨g, 0, none⟩ ∧ l = L.length ∧ g < W.heap.size ∧ ∀ (j : Nat) (u : Value), (cellsL L)[j]? = some u → W.cell? ((⟨g, 0, none⟩ : Addr).add j) = some u := by
  rcases h.2 with ⟨e, h0⟩ | ⟨g, cap, cur, e, _, h3, _⟩
  · cases e
    exact .inl ⟨rfl, rfl, rfl, List.length_eq_zero_iff.1 h0⟩
  · cases e
    refine .inr ⟨g, rfl, rfl, (Array.getElem?_eq_some_iff.1 h3).1, fun j u hu => ?_⟩
    have hj : j < L.length * 3 := by have := (List.getElem?_eq_some_iff.1 hu).1; rwa [cellsL_len] at this
    rw [addr_add, Nat.zero_add, World.ownsRow.cellAt h j hj]
    exact hu

set_option maxRecDepth 100000 in
set_option maxHeartbeats 4000000 in
/-- l.tokens(from, to). -/
theorem ltokens_c (w : World) (base X b : Nat) (T : List UInt8) (n : Nat) (h : Lx w base X b T n) (f t : Nat) (hft : f < t) (ht : t ≤ (splitL T).length) :
    Calls Tryz.prog 36 #[.pointer (some ⟨X, 0, none⟩), .int .i64 (f : Int), .int .i64 (t : Int)] w fun e W' => ∃ v, e = .returned v ∧ OwnL W' w.heap.size v (toksJ (((splitL T).drop f).take (t - f))) ∧ Below w.heap.size w W' := by
  obtain ⟨i0, hi, hz0, hz1, hz2⟩ := info_tok
  obtain ⟨E, cap, h1, h2, h3, h4, h5, h6, h7, h8, h9, hb, hc⟩ := h.open
  have hsm := h.small
  have hEl : E.length = (splitL T).length := by rw [← h3, List.length_map]
  have hX := h1.lt
  have cX := h1.cell 0
  simp at cX
  have hgoal : toksJ (((splitL T).drop f).take (t - f)) = toksP E f (t - f) := by unfold toksP; rw [h3]
  have hlen := fun k => toksP_len E f k
  rw [h7] at hlen
  have htE : t ≤ E.length := by omega
  rw [hgoal]
  have HC := Lib.hid hc
  have H4 := Lib.hid h4
  have HLN := Lib.hid hlen
  obtain ⟨m, rfl⟩ : ∃ m, t = f + m := ⟨t - f, by omega⟩
  rw [Nat.add_sub_cancel_left]
  unfold maxLen at h9
  have hfl : f ≤ cap := by omega
  have hcf : ¬ cap = f := by omega
  have htc : f + m ≤ cap := by omega
  have hml : m ≤ 4001 := by omega
  have hf1 : f ≤ 4001 := by omega
  obtain ⟨el, hel⟩ : ∃ l, l = E.length := ⟨_, rfl⟩
  have HEL := Lib.hid hel
  rw [← hel] at cX h5 htE h8
  clear hc h h1 h2 h3 h4 h6 h7 ht hgoal hlen hEl hel
  go_enter Tryz.func36, Tryz.ntmps36
  go_wp2
  go_loopw [7, 8, 9, 18] (fun v _ _ i wr => ∃ k : Nat, k ≤ m ∧ i = .int .i64 k ∧ Below w.heap.size w wr ∧ OwnL wr w.heap.size v (toksP E f k))
    (fun _ _ _ i _ => m - (intOf i).toNat)
  case atStart => exact ⟨0, Nat.zero_le _, rfl, Below.refl _ _, by rw [toksP_zero]; exact World.ownsRow_nil _ _ _ _⟩
  case round =>
    obtain ⟨k, hk, rfl, hb1, hown⟩ := hrel
    have HB := Lib.hid hb1
    have HO := Lib.hid hown
    obtain ⟨a7, l7, c7, hv7⟩ := own_sl hown
    by_cases hlt : k < m
    · have hkE : f + k < E.length := by rw [← HEL.out]; omega
      obtain ⟨x0, x1⟩ := HC.out (f + k) _ (lnAt_of hkE)
      have htk : OwnL wr base (lnAt E (f + k)).toksV (toks st (lnAt E (f + k)).text 0) := by
        have := H4.out _ (List.mem_of_getElem? (lnAt_of hkE))
        exact ownsRow_keep this (fun k hk => hb1.block k (ownsRow_lt this hk))
      obtain ⟨S, hS⟩ : ∃ S, S = bs (lnAt E (f + k)).text := ⟨_, rfl⟩
      obtain ⟨ka, hka⟩ : ∃ a, a = (lnAt E (f + k)).a := ⟨_, rfl⟩
      obtain ⟨kl, hkl⟩ : ∃ a, a = (lnAt E (f + k)).l := ⟨_, rfl⟩
      obtain ⟨kc, hkc⟩ : ∃ a, a = (lnAt E (f + k)).c := ⟨_, rfl⟩
      obtain ⟨L, hL⟩ : ∃ L, L = toks st (lnAt E (f + k)).text 0 := ⟨_, rfl⟩
      unfold Ln.toksV at htk
      rw [← hS] at x0
      rw [← hka, ← hkl, ← hkc] at x1 htk
      rw [← hL] at htk
      rw [Nat.add_mul] at x0 x1
      have c0 := (hb1.cell (p := ⟨b, f * 2 + k * 2, none⟩) hb).trans x0
      have c1 := (hb1.cell (p := ⟨b, f * 2 + k * 2 + 1, none⟩) hb).trans x1
      have hat := toked_at htk
      have hone : k = 0 → toksP E f (k + 1) = L := fun h0 => by subst h0; rw [toksP_one (by omega), hL]; rfl
      have hsucc : 0 < k → toksP E f (k + 1) = (toksP E f k ++ [endTk]) ++ L := fun h0 => by rw [toksP_succ hkE h0, hL]
      have HL1 := HLN.out k
      have HL2 := HLN.out (k + 1)
      have HON := Lib.hid hone
      have HSU := Lib.hid hsucc
      have HAT := Lib.hid hat
      have HNE : Hid (∀ g, ka = some ⟨g, 0, none⟩ → g < w.heap.size) := Lib.hid (fun g hg0 => by
        have h9 := H4.out _ (List.mem_of_getElem? (lnAt_of hkE))
        refine ownsRow_lt h9 (k := g) ?_
        show Value.ownBlock (.slice (lnAt E (f + k)).a _ _) = some g
        rw [← hka, hg0]
        rfl)
      have HBS := Lib.hid hb1.size
      clear x0 x1 htk hS hka hkl hkc hL hat hone hsucc hown hb1 hkE
      subst hv7
      have HBX : ∀ o, Hid (Below w.heap.size w (wr.alloc o)) := fun o => Lib.hid (HB.out.alloc HBS.out o)
      by_cases h0 : k = 0
      · subst h0
        have hP0 := toksP_zero E f
        simp only [Nat.zero_mul, Nat.add_zero] at c0 c1
        rcases HAT.out with ⟨rfl, rfl, rfl, hLn⟩ | ⟨g, rfl, rfl, hg, hcs⟩
        · have HO2 := Lib.hid (HO.out.alloc (.cells #[.string S, .slice none 0 0] 90))
          have HP1 : Hid (toksP E f (0 + 1) = toksP E f 0) := Lib.hid (by rw [HON.out rfl, hLn, hP0])
          clear hLn hP0
          go_wp2_with (at_builtin; refine wpList_append_own_none rfl (.tmp 29) (.tmp 31) 44 rfl w.heap.size 55 i0 3 Tryz.underlying44 hi (.slice a7 l7 c7) _ (cellsL (toksP E f 0)) rfl HO2.out rfl ?_)
          go_roundw
          case rel =>
            refine ⟨_, _, _, _, ⟨0 + 1, by omega, ?_, (HBX _).out, ?_⟩, rfl, rfl, rfl, rfl⟩
            · rfl
            · rw [HP1.out]; exact HO2.out
          case measure => simp [intOf]; omega
        · have HO2 := Lib.hid (HO.out.alloc (.cells #[.string S, .slice (some ⟨g, 0, none⟩) L.length kc] 90))
          have HP1 : Hid (toksP E f (0 + 1) = toksP E f 0 ++ L) := Lib.hid (by rw [HON.out rfl, hP0]; rfl)
          have HCS : Hid (∀ (j : Nat) (u : Value), (cellsL L)[j]? = some u → (wr.alloc (.cells #[.string S, .slice (some ⟨g, 0, none⟩) L.length kc] 90)).cell? ((⟨g, 0, none⟩ : Addr).add j) = some u) := Lib.hid (fun j u hu => by
            have h9 := hcs j u hu
            rw [addr_add] at h9 ⊢
            exact (World.cell?_of_block (a := ⟨g, 0 + j, none⟩) (Below.heap_alloc wr _ g hg)).trans h9)
          have HLE : Hid ((toksP E f 0).length + L.length ≤ maxLen ∧ ((toksP E f 0).length + L.length) * 40 ≤ 140737488355328) := Lib.hid (by
            have h9 := HL2
            rw [HP1.out, List.length_append] at h9
            exact ⟨by unfold maxLen; omega, by omega⟩)
          have HBA : Hid (w.heap.size ≤ (wr.alloc (.cells #[.string S, .slice (some ⟨g, 0, none⟩) L.length kc] 90)).heap.size) := Lib.hid (HBX _).out.size
          clear hcs hP0
          go_wp2_with (at_builtin; refine wpList_append_own _ rfl (.tmp 29) (.tmp 31) 44 rfl w.heap.size 55 i0 (.agg #[.int .i64 0, .string ⟨#[]⟩, .string ⟨#[]⟩]) 3 40 Tryz.underlying44 hi hz0 hz1 hz2 rfl (by decide) (.slice a7 l7 c7) _ (cellsL (toksP E f 0)) rfl HO2.out ⟨g, 0, none⟩ L.length kc (cellsL L) rfl (cellsL_len L) HCS.out (cellsL_one L) HLE.out.1 HLE.out.2 HBA.out ?_; intro v2 w2 ho2 hg2 _; have HO3 := Lib.hid ho2; have HG3 := Lib.hid hg2; clear ho2 hg2)
          go_roundw
          case rel =>
            refine ⟨_, _, _, _, ⟨0 + 1, by omega, ?_, (HBX _).out.grown HG3.out HBA.out (fun j ej => (HO2.out.lt j ej).1), ?_⟩, rfl, rfl, rfl, rfl⟩
            · rfl
            rw [HP1.out]
            show w2.ownsRow _ _ 3 v2 (toksP E f 0 ++ L).length (cellsL (toksP E f 0 ++ L))
            rw [List.length_append, cellsL_app]
            exact HO3.out
          case measure => simp [intOf]; omega
      · have hk0 : 0 < k := by omega
        have HP1 := Lib.hid (HSU.out hk0)
        have hz3 : ¬ ((k : Int) = 0) := by omega
        have HLE : Hid ((toksP E f k).length + 1 + L.length ≤ 4001) := Lib.hid (by
          have h9 := HL2
          rw [HP1.out, List.length_append, List.length_append, List.length_singleton] at h9
          omega)
        have HO2 := Lib.hid ((HO.out.alloc (.cells #[.string S, .slice ka kl kc] 90)).alloc (.cells #[.int .i64 11, .string ⟨#[10]⟩, .string ⟨#[]⟩] 55))
        have HNW : Hid (∀ (j : Nat) (u : Value), [Value.int .i64 11, .string ⟨#[10]⟩, .string ⟨#[]⟩][j]? = some u → ((wr.alloc (.cells #[.string S, .slice ka kl kc] 90)).alloc (.cells #[.int .i64 11, .string ⟨#[10]⟩, .string ⟨#[]⟩] 55)).cell? ((⟨wr.heap.size + 1, 0, none⟩ : Addr).add j) = some u) := Lib.hid (by
          have := World.news_of_block (World.alloc_heap_new (wr.alloc (.cells #[.string S, .slice ka kl kc] 90)) (.cells #[.int .i64 11, .string ⟨#[10]⟩, .string ⟨#[]⟩] 55))
          rw [World.size_alloc] at this
          exact this)
        have HON1 : Hid (∀ u ∈ [Value.int .i64 11, .string ⟨#[10]⟩, .string ⟨#[]⟩], u.oneCell' = true) := Lib.hid (by intro u hu; simp at hu; rcases hu with rfl | rfl | rfl <;> rfl)
        have HLA : Hid (((toksP E f k).length + 1 ≤ maxLen ∧ ((toksP E f k).length + 1) * 40 ≤ 140737488355328) ∧ ((toksP E f k).length + 1 + L.length ≤ maxLen ∧ ((toksP E f k).length + 1 + L.length) * 40 ≤ 140737488355328)) := Lib.hid (by have := HLE.out; exact ⟨⟨by unfold maxLen; omega, by omega⟩, ⟨by unfold maxLen; omega, by omega⟩⟩)
        have HB2 : Hid (Below w.heap.size w ((wr.alloc (.cells #[.string S, .slice ka kl kc] 90)).alloc (.cells #[.int .i64 11, .string ⟨#[10]⟩, .string ⟨#[]⟩] 55))) := Lib.hid ((HBX _).out.alloc (HBX _).out.size _)
        have hrx : Row (wr.alloc (.cells #[.string S, .slice ka kl kc] 90)) wr.heap.size 90 #[.string S, .slice ka kl kc] := Row.new _ _ _
        have HRX := Lib.hid (hrx.alloc (.cells #[.int .i64 11, .string ⟨#[10]⟩, .string ⟨#[]⟩] 55))
        clear hrx
        go_wp2_with (at_builtin; refine wpList_append_own _ rfl (.tmp 25) (.tmp 27) 44 rfl w.heap.size 55 i0 (.agg #[.int .i64 0, .string ⟨#[]⟩, .string ⟨#[]⟩]) 3 40 Tryz.underlying44 hi hz0 hz1 hz2 rfl (by decide) (.slice a7 l7 c7) _ (cellsL (toksP E f k)) rfl HO2.out ⟨wr.heap.size + 1, 0, none⟩ 1 1 [.int .i64 11, .string ⟨#[10]⟩, .string ⟨#[]⟩] rfl rfl HNW.out HON1.out HLA.out.1.1 HLA.out.1.2 HB2.out.size ?_)
        intro v1 w1 ho1 hg1 _
        obtain ⟨a1, l1, c1', rfl⟩ := own_sl ho1
        have HG1 := Lib.hid hg1
        have HO1 := Lib.hid ho1
        have HB3 : Hid (Below w.heap.size w w1) := Lib.hid (HB2.out.grown hg1 HB2.out.size (fun j ej => (HO2.out.lt j ej).1))
        have hkeep : ∀ (q : Nat) (cs : Array Value) (tt : TypeId), tt ≠ 55 → ((wr.alloc (.cells #[.string S, .slice ka kl kc] 90)).alloc (.cells #[.int .i64 11, .string ⟨#[10]⟩, .string ⟨#[]⟩] 55)).heap[q]? = some (.cells cs tt (0, 0)) → w1.heap[q]? = some (.cells cs tt (0, 0)) := fun q cs tt hne hq => (hg1.block q (Array.getElem?_eq_some_iff.1 hq).1 (fun e => by
          obtain ⟨cur, hcur⟩ := ownsRow_at HO2.out e.symm
          rw [hq] at hcur
          cases hcur
          exact hne rfl)).trans hq
        have hrx1 : Row w1 wr.heap.size 90 #[.string S, .slice ka kl kc] := hkeep _ _ _ (by decide) HRX.out
        have e0 := hrx1.cell 0
        have e1 := hrx1.cell 1
        simp only [List.getElem?_toArray, List.getElem?_cons_zero, List.getElem?_cons_succ] at e0 e1
        clear ho1 hg1 hrx1 hkeep
        rcases HAT.out with ⟨rfl, rfl, rfl, hLn⟩ | ⟨g, rfl, rfl, hg, hcs⟩
        · have HP2 : Hid (toksP E f (k + 1) = toksP E f k ++ [endTk]) := Lib.hid (by rw [HP1.out, hLn, List.append_nil])
          clear hLn
          go_wp2_with (at_builtin; refine wpList_append_own_none rfl (.tmp 29) (.tmp 31) 44 rfl w.heap.size 55 i0 3 Tryz.underlying44 hi (.slice a1 l1 c1') _ _ rfl HO1.out rfl ?_)
          go_roundw
          case rel =>
            refine ⟨_, _, _, _, ⟨k + 1, by omega, ?_, HB3.out, ?_⟩, rfl, rfl, rfl, rfl⟩
            · rw [Int.natCast_add]; rfl
            rw [HP2.out]
            show w1.ownsRow _ _ 3 _ (toksP E f k ++ [endTk]).length (cellsL (toksP E f k ++ [endTk]))
            rw [List.length_append, cellsL_app, cellsL_end]
            exact HO1.out
          case measure => simp [intOf]; omega
        · have HBX1 : Hid (wr.heap.size ≤ w1.heap.size) := Lib.hid (by have := HG1.out.size; rw [World.size_alloc, World.size_alloc] at this; omega)
          have HGB : Hid (w1.heap[g]? = wr.heap[g]?) := Lib.hid (by
            have h8 := HG1.out.block g (by rw [World.size_alloc, World.size_alloc]; omega) (fun e => by
              have h7 := (HO2.out.lt g e.symm).1
              have h6 := HNE.out g rfl
              omega)
            rw [h8, Below.heap_alloc _ _ g (by rw [World.size_alloc]; omega), Below.heap_alloc _ _ g hg])
          have HCS : Hid (∀ (j : Nat) (u : Value), (cellsL L)[j]? = some u → w1.cell? ((⟨g, 0, none⟩ : Addr).add j) = some u) := Lib.hid (fun j u hu => by
            have h9 := hcs j u hu
            rw [addr_add] at h9 ⊢
            exact (World.cell?_of_block (a := ⟨g, 0 + j, none⟩) HGB.out).trans h9)
          clear hcs
          go_wp2_with (at_builtin; refine wpList_append_own _ rfl (.tmp 29) (.tmp 31) 44 rfl w.heap.size 55 i0 (.agg #[.int .i64 0, .string ⟨#[]⟩, .string ⟨#[]⟩]) 3 40 Tryz.underlying44 hi hz0 hz1 hz2 rfl (by decide) (.slice a1 l1 c1') _ _ rfl HO1.out ⟨g, 0, none⟩ L.length kc (cellsL L) rfl (cellsL_len L) HCS.out (cellsL_one L) HLA.out.2.1 HLA.out.2.2 HB3.out.size ?_; intro v2 w2 ho2 hg2 _; have HO3 := Lib.hid ho2; have HG3 := Lib.hid hg2; clear ho2 hg2)
          go_roundw
          case rel =>
            refine ⟨_, _, _, _, ⟨k + 1, by omega, ?_, HB3.out.grown HG3.out HB3.out.size (fun j ej => (HO1.out.lt j ej).1), ?_⟩, rfl, rfl, rfl, rfl⟩
            · rw [Int.natCast_add]; rfl
            rw [HP1.out]
            show w2.ownsRow _ _ 3 v2 (toksP E f k ++ [endTk] ++ L).length (cellsL (toksP E f k ++ [endTk] ++ L))
            rw [List.length_append, List.length_append, cellsL_app, cellsL_app, cellsL_end]
            exact HO3.out
          case measure => simp [intOf]; omega
    · obtain rfl : k = m := by omega
      clear hb1 hown
      go_wp2
      go_ret
      exact ⟨_, rfl, HO.out, HB.out⟩
end Go.Proofs.YtdgffpcbpilkcaaGreatDoor

/- A line's tokens; all tokens. -/
namespace Go.Proofs.YtdgffpcbpilkcaaGreatDoor
open Go Go.RowKit Go.Shelf
attribute [local go_sem] Oper.semAt_some

/-- All of a text's tokens; line i's. -/
def tokT (T : List UInt8) : List Tk := toksJ (splitL T)
def linT (T : List UInt8) (i : Int) : List Tk := if 0 ≤ i ∧ i < (splitL T).length then toks st ((splitL T).getD i.toNat []) 0 else []

set_option maxRecDepth 100000 in
set_option maxHeartbeats 1000000 in
theorem xtokens_c (W : World) (base X b : Nat) (T : List UInt8) (n : Nat) (h : Lx W base X b T n) :
    Calls Tryz.prog 23 #[.pointer (some ⟨X, 0, none⟩)] W fun e W' => ∃ v, e = .returned v ∧ OwnL W' W.heap.size v (tokT T) ∧ Below W.heap.size W W' := by
  have hmix : Tryz.prog.follows .mixedOrders = true := by kernel_rfl
  have hd : Below W.heap.size W W.drew := (Below.refl _ W).drew
  have h1 : 1 ≤ (splitL T).length := by rw [splitL_len]; omega
  have ht := ltokens_c W.drew base X b T n (h.below hd) 0 (splitL T).length (by omega) (Nat.le_refl _)
  rw [List.drop_zero, Nat.sub_zero, List.take_length] at ht
  have hl := xlines_c W.drew base X b T n (h.below hd)
  obtain ⟨l, hle⟩ : ∃ l, l = (splitL T).length := ⟨_, rfl⟩
  rw [← hle] at ht hl
  have HT := Lib.hid ht
  have HL := Lib.hid hl
  have HD := Lib.hid hd
  clear ht hl hd h hle
  go_enter Tryz.func23, Tryz.ntmps23
  go_wp2_with fail
  go_region_with (first
    | (go_at_call 33; refine (orEmpty_some _ _).mono ?_; rintro e w1 ⟨rfl, rfl⟩)
    | (go_at_call 18; refine HL.out.mono ?_; rintro e w1 ⟨rfl, rfl⟩)
    | (go_at_call 36; refine HT.out.mono ?_; rintro e w1 ⟨v, rfl, ho, hb⟩; have HO := Lib.hid ho; have HB := Lib.hid hb; clear ho hb))
  all_goals go_wp2_with fail
  all_goals go_ret
  all_goals exact ⟨v, rfl, HO.out, HD.out.trans HB.out⟩

set_option maxRecDepth 100000 in
set_option maxHeartbeats 1000000 in
theorem xline_c (W : World) (base X b : Nat) (T : List UInt8) (n : Nat) (h : Lx W base X b T n) (i : Int) :
    Calls Tryz.prog 20 #[.pointer (some ⟨X, 0, none⟩), .int .i64 i] W fun e W' => ∃ v, e = .returned v ∧ OwnL W' W.heap.size v (linT T i) ∧ Below W.heap.size W W' := by
  have hl := xlines_c W base X b T n h
  have hsm : (splitL T).length ≤ 4001 := by
    have := h.small
    have : T.count 10 ≤ T.length := List.count_le_length
    rw [splitL_len]; omega
  have hnil : ∀ W', OwnL W' W.heap.size (.slice none 0 0) [] := fun W' => World.ownsRow_nil _ _ _ _
  by_cases p1 : i < 0
  · have t1 : decide (i < 0) = true := by simp; omega
    have hx : linT T i = [] := by unfold linT; rw [if_neg (by omega)]
    have HN := Lib.hid hnil
    rw [hx]
    clear h hl hnil hx
    go_enter Tryz.func20, Tryz.ntmps20
    go_wp2_with fail
    go_ret
    exact ⟨_, rfl, HN.out _, Below.refl _ _⟩
  · have t1 : decide (i < 0) = false := by simp; omega
    by_cases p2 : ((splitL T).length : Int) ≤ i
    · have hx : linT T i = [] := by unfold linT; rw [if_neg (by omega)]
      have HN := Lib.hid hnil
      rw [hx]
      obtain ⟨l, hle⟩ : ∃ l, l = (splitL T).length := ⟨_, rfl⟩
      rw [← hle] at hl p2
      have t2 : decide ((l : Int) ≤ i) = true := by simp; omega
      have HL := Lib.hid hl
      clear h hl hnil hx hle hsm
      go_enter Tryz.func20, Tryz.ntmps20
      go_wp2_with fail
      refine HL.out.mono ?_
      rintro e w1 ⟨rfl, rfl⟩
      go_wp2_with fail
      go_ret
      exact ⟨_, rfl, HN.out _, Below.refl _ _⟩
    · obtain ⟨k, rfl⟩ : ∃ k : Nat, i = k := ⟨i.toNat, by omega⟩
      have ht := ltokens_c W base X b T n h k (k + 1) (by omega) (by omega)
      have hx : toksJ (((splitL T).drop k).take (k + 1 - k)) = linT T (k : Int) := by
        unfold linT
        rw [if_pos (by omega), Nat.add_sub_cancel_left, List.take_add_one, List.getElem?_drop]
        have hk : k < (splitL T).length := by omega
        rw [Nat.add_zero, List.getElem?_eq_getElem hk, List.getD_eq_getElem?_getD]
        simp [toksJ, List.getElem?_eq_getElem hk]
      rw [hx] at ht
      obtain ⟨R, hR⟩ : ∃ R, R = linT T (k : Int) := ⟨_, rfl⟩
      rw [← hR] at ht ⊢
      obtain ⟨l, hle⟩ : ∃ l, l = (splitL T).length := ⟨_, rfl⟩
      rw [← hle] at hl p2 hsm
      have t2 : decide ((l : Int) ≤ (k : Int)) = false := by simp; omega
      rw [Int.natCast_add] at ht
      have HT : Hid (Calls Tryz.prog 36 #[.pointer (some ⟨X, 0, none⟩), .int .i64 (k : Int), .int .i64 ((k : Int) + 1)] W fun e W' => ∃ v, e = .returned v ∧ OwnL W' W.heap.size v R ∧ Below W.heap.size W W') := Lib.hid ht
      have HL := Lib.hid hl
      have hk2 : k ≤ 4001 := by omega
      clear h hl hnil hx hle hR ht
      go_enter Tryz.func20, Tryz.ntmps20
      go_wp2_with fail
      refine HL.out.mono ?_
      rintro e w1 ⟨rfl, rfl⟩
      go_wp2_with fail
      refine HT.out.mono ?_
      rintro e w1 ⟨v, rfl, ho, hb⟩
      have HO := Lib.hid ho
      have HB := Lib.hid hb
      clear ho hb
      go_wp2_with fail
      go_ret
      exact ⟨v, rfl, HO.out, HB.out⟩
/-- .. of no lexer. -/
theorem xline_nil (W : World) (i : Int) :
    Calls Tryz.prog 20 #[.pointer none, .int .i64 i] W fun e W' => e = .returned (.slice none 0 0) ∧ Below W.heap.size W W' := by
  by_cases p1 : i < 0
  · have t1 : decide (i < 0) = true := by simp; omega
    go_enter Tryz.func20, Tryz.ntmps20
    go_wp2_with fail
    go_ret
    exact ⟨rfl, Below.refl _ _⟩
  · have t1 : decide (i < 0) = false := by simp; omega
    have t2 : decide (0 ≤ i) = true := by simp; omega
    go_enter Tryz.func20, Tryz.ntmps20
    go_wp2_with fail
    refine (xlines_nil W).mono ?_
    rintro e w1 ⟨rfl, hb⟩
    have HB := Lib.hid hb
    clear hb
    go_wp2_with fail
    go_ret
    exact ⟨rfl, HB.out⟩
end Go.Proofs.YtdgffpcbpilkcaaGreatDoor

/- What is read of no lexer. -/
namespace Go.Proofs.YtdgffpcbpilkcaaGreatDoor
open Go Go.RowKit Go.Shelf
attribute [local go_sem] Oper.semAt_some

theorem orEmpty_new (W : World) :
    Calls Tryz.prog 33 #[.pointer none] W fun e W' => ∃ Y, e = .returned (.pointer (some ⟨Y, 0, none⟩)) ∧ Row W' Y 65 #[.slice none 0 0, .int .i64 0] ∧ W.heap.size ≤ Y ∧ Below W.heap.size W W' :=
  (orEmpty_nil W).mono fun e W' ⟨he, hw⟩ => ⟨W.heap.size, he, by rw [hw]; exact Row.new _ _ _, Nat.le_refl _, by rw [hw]; exact (Below.refl _ W).alloc (Nat.le_refl _) _⟩

set_option maxRecDepth 100000 in
set_option maxHeartbeats 1000000 in
theorem ltokens_nil (W : World) (Y : Nat) (hY : Row W Y 65 #[.slice none 0 0, .int .i64 0]) :
    Calls Tryz.prog 36 #[.pointer (some ⟨Y, 0, none⟩), .int .i64 0, .int .i64 0] W fun e W' => e = .returned (.slice none 0 0) ∧ Below W.heap.size W W' := by
  have c := hY.cell 0
  simp at c
  clear hY
  go_enter Tryz.func36, Tryz.ntmps36
  go_wp2
  refine wp_loop_rounds 1 ?_
  rw [rounds_succ]
  go_wp2
  go_ret
  exact ⟨rfl, Below.refl _ _⟩

set_option maxRecDepth 100000 in
set_option maxHeartbeats 1000000 in
theorem xtokens_nil (W : World) :
    Calls Tryz.prog 23 #[.pointer none] W fun e W' => e = .returned (.slice none 0 0) ∧ Below W.heap.size W W' := by
  have hmix : Tryz.prog.follows .mixedOrders = true := by kernel_rfl
  have hd : Below W.heap.size W W.drew := (Below.refl _ W).drew
  have HD := Lib.hid hd
  clear hd
  go_enter Tryz.func23, Tryz.ntmps23
  go_wp2_with fail
  go_region_with (first
    | (go_at_call 36; refine (ltokens_nil _ Y HR2.out).mono ?_; rintro e w3 ⟨rfl, hb3⟩; have HB3 := Lib.hid (HB2.out.trans (hb3.mono HB2.out.size)); clear hb3)
    | (go_at_call 36; refine (ltokens_nil _ Y HR1.out).mono ?_; rintro e w3 ⟨rfl, hb3⟩; have HB3 := Lib.hid (HB1.out.trans (hb3.mono HB1.out.size)); clear hb3)
    | (go_at_call 33; refine (orEmpty_new _).mono ?_; rintro e w1 ⟨Y, rfl, hr, hy, hb1⟩; first | (have HB1 := Lib.hid (HBL.out.trans (hb1.mono HBL.out.size)); have HR1 := Lib.hid hr; clear hr hb1 hy) | (have HB1 := Lib.hid (HD.out.trans hb1); have HR1 := Lib.hid hr; clear hr hb1 hy))
    | (go_at_call 18; refine (xlines_nil _).mono ?_; rintro e w2 ⟨rfl, hb2⟩; first | (have HR2 := Lib.hid (HR1.out.below hb2 HR1.out.lt); have HB2 := Lib.hid (HB1.out.trans (hb2.mono HB1.out.size)); clear hb2) | (have HBL := Lib.hid (HD.out.trans hb2); clear hb2)))
  all_goals go_wp2_with fail
  all_goals go_ret
  all_goals exact ⟨rfl, HB3.out⟩

set_option maxRecDepth 100000 in
set_option maxHeartbeats 2000000 in
/-- The iterator over no list. -/
theorem leach1E_nil_in (F : Fence) (n : Nat) (h38 : F.fn 65) (hro : F.round = none) (l Bp X len : Nat) (J : List (Ix len) → World → Prop) (W : World) (hBp : W.cell? ⟨Bp, 0, none⟩ = some (.pointer (some ⟨X, 0, none⟩))) (hB : W.cell? ⟨X, 0, none⟩ = some (.slice none 0 0)) (h0 : J [] W) :
    CallsIn F n Tryz.prog 65 #[.func (.yield l) #[] #[], .pointer (some ⟨Bp, 0, none⟩)] W fun e W' => (∃ v, e = .returned v) ∧ J [] W' := by
  refine callsIn_of_wp Tryz.func65 rfl h38 ?_ hro
  simp only [Tryz.ntmps65, List.size_toArray, List.length_cons, List.length_nil, Nat.reduceAdd, Nat.reduceSub, Array.replicate_succ, Array.replicate_zero, List.push_toArray, List.append_toArray, List.nil_append, List.cons_append]
  gi_wp2
  gi_loopw [3, 5, 11] (fun _ _ i wr => i = .int .i64 0 ∧ J [] wr) (fun _ _ _ _ => 0)
  case atStart => exact ⟨rfl, h0⟩
  case round =>
    obtain ⟨rfl, hJs⟩ := hrel
    gi_wp2
    go_end0
    exact ⟨⟨_, rfl⟩, hJs⟩
theorem leachE_nil_stops (F : Fence) (n : Nat) (h38 : F.fn 65) (hro : F.round = none) (Bp n₀ n₁ X : Nat) (w : World) (hBp : Bp < w.heap.size) (cBp : w.cell? ⟨Bp, 0, none⟩ = some (.pointer (some ⟨X, 0, none⟩))) (hX : X < w.heap.size) (cX : w.cell? ⟨X, 0, none⟩ = some (.slice none 0 0)) :
    SeqStopsK F n Tryz.prog 65 #[.pointer (some ⟨Bp, 0, none⟩)] (encE []) (KeepE n₀ n₁) (fun ys : List (Ix 0) => ys.map (·.1) = List.range 0)
      (fun pre => ∃ k, k ≤ 0 ∧ pre.map (·.1) = List.range k) 0 w := fun l J Jx W hW hJ _ hY h0 => by
  have c1 := (hW.cell (p := ⟨Bp, 0, none⟩) hBp).trans cBp
  have c2 := (hW.cell (p := ⟨X, 0, none⟩) hX).trans cX
  exact (leach1E_nil_in F n h38 hro l Bp X 0 J W c1 c2 h0).mono fun e W' ⟨he, hj⟩ => ⟨he, .inl ⟨_, rfl, hj⟩⟩

set_option maxRecDepth 100000 in
set_option maxHeartbeats 4000000 in
theorem ltext_nil (w : World) (X : Nat) (hXr : Row w X 65 #[.slice none 0 0, .int .i64 0]) :
    Calls Tryz.prog 34 #[.pointer (some ⟨X, 0, none⟩)] w fun e W' => e = .returned (.string ⟨#[]⟩) ∧ Below w.heap.size w W' := by
  have hX := hXr.lt
  have cX := hXr.cell 0
  simp at cX
  clear hXr
  refine (callsIn_wide (n := 5)).1 ?_
  refine callsIn_of_wp_marks Tryz.func34 rfl trivial ?_ rfl
  simp only [Tryz.ntmps34, List.size_toArray, List.length_cons, List.length_nil, Nat.reduceAdd, Nat.reduceSub, Array.replicate_succ, Array.replicate_zero, List.push_toArray, List.append_toArray, List.nil_append, List.cons_append]
  gi_wp2_with (refine ⟨trivial, ?_⟩; gi_at_call 45; refine (leach_in _ 4 trivial rfl _ _).mono ?_; rintro e w' ⟨rfl, rfl⟩)
  have bB := isB_alloc (isB_new w) (.cells #[.pointer (some ⟨X, 0, none⟩)] 81)
  have bP := Boxed.new (w.alloc (.cells #[.pointer none, .slice none 0 0] 95)) 81 (.pointer (some ⟨X, 0, none⟩))
  simp only [World.size_alloc] at bP
  have hB0 : Below w.heap.size w ((w.alloc (.cells #[.pointer none, .slice none 0 0] 95)).alloc (.cells #[.pointer (some ⟨X, 0, none⟩)] 81)) := ((Below.refl _ w).alloc (Nat.le_refl _) _).alloc (by simp) _
  have hsz : ((w.alloc (.cells #[.pointer none, .slice none 0 0] 95)).alloc (.cells #[.pointer (some ⟨X, 0, none⟩)] 81)).heap.size = w.heap.size + 2 := by simp
  obtain ⟨W0, hW0⟩ : ∃ W0, (w.alloc (.cells #[.pointer none, .slice none 0 0] 95)).alloc (.cells #[.pointer (some ⟨X, 0, none⟩)] 81) = W0 := ⟨_, rfl⟩
  rw [hW0] at bB bP hB0 hsz ⊢
  clear hW0
  refine wpIn_rangeFunc_ownH rfl (by omega) (gf := 65) (lb := #[.pointer (some ⟨w.heap.size + 1, 0, none⟩)]) rfl trivial (enters_of Tryz.func65 (by kernel_rfl) rfl)
    (leachE_nil_stops _ 4 trivial rfl (w.heap.size + 1) w.heap.size W0.heap.size X W0 (by omega) bP.cell (by omega) ((hB0.cell (p := ⟨X, 0, none⟩) hX).trans cX)) keepE_t (keepE_b (by omega)) (Below.refl _ _) (fun _ => rfl)
    (fun _ W => IsB w.heap.size w.heap.size (Lib.byteCells []) W ∧ Below w.heap.size w W)
    (fun _ _ _ => False)
    (OwnFrom.and (Own.from (fun s X Y row hs hg hr => isB_kept hs hg hr) _) (ownFrom_below (Nat.le_refl _) (by omega)))
    (fun _ _ _ _ _ hs _ _ => hs)
    ⟨bB, hB0⟩
    (fun x a' W => False)
    (fun x a' _ X Y row hs hg hr => hs)
    ?assign ?body ?done ?stop
  case assign =>
    rintro l pre x W K _ hK
    exact absurd x.2 (by omega)
  case body =>
    rintro l pre x a' W hl ⟨r, hr⟩ _ h0 hlt
    exact h0.elim
  case done =>
    rintro D zs W hD hz ⟨hI, hB1⟩ hK
    have HE := Lib.hid (Tryz.Builder_String_any_k w.heap.size w.heap.size _ _ (Lib.IsBuilderF.of hI) hB1.size)
    have HB := Lib.hid hB1
    have HK := Lib.hid hK
    clear hz hI hK hB1
    gi_wp2
    refine ⟨trivial, ?_⟩
    refine (callsIn_wide.2 HE.out).mono ?_
    rintro e w2 ⟨rfl, _, hb2, ho2⟩
    have hK2 : w2.heap[D]? = some (.deferred (some [])) := ho2 D _ HK.out (fun e => by
      have h9 : w.heap.size < W0.heap.size := by omega
      have h8 := Option.some.inj e
      omega) (fun c fz e => by cases e)
    gi_wp2
    refine ⟨by simp, .inl ⟨_, _, rfl, run_takeDeferred hK2, ?_⟩⟩
    exact ⟨_, results_tmp rfl _ _ _, rfl, (HB.out.trans hb2).trans (belowK_b (w := w) (Nat.le_refl _) w2 D _ _ (by omega) hK2 rfl rfl)⟩
  case stop =>
    rintro D c pre W _ _ h _
    exact h.elim
theorem xtext_nil (W : World) :
    Calls Tryz.prog 16 #[.pointer none] W fun e W' => e = .returned (.string ⟨#[]⟩) ∧ Below W.heap.size W W' := by
  go_enter Tryz.func16, Tryz.ntmps16
  go_wp2_with fail
  refine (orEmpty_new _).mono ?_
  rintro e w1 ⟨Y, rfl, hr, hy, hb1⟩
  have HT := Lib.hid (ltext_nil w1 Y hr)
  have HB := Lib.hid hb1
  clear hr hy hb1
  go_wp2_with fail
  refine HT.out.mono ?_
  rintro e w1 ⟨rfl, hb⟩
  go_wp2_with fail
  go_ret
  exact ⟨rfl, HB.out.trans (hb.mono HB.out.size)⟩
end Go.Proofs.YtdgffpcbpilkcaaGreatDoor

/- What the laws share: is a change known. -/
namespace Go.Proofs.YtdgffpcbpilkcaaGreatDoor
open Go Go.RowKit Go.Shelf
attribute [local go_sem] Oper.semAt_some

def exT : List UInt8 := [97, 10, 98, 99, 100, 10, 101]
def exS : List UInt8 := [97, 10, 98, 10, 49, 10, 101]
theorem ex_frL : frL exT 3 = 1 ∧ olL exT 3 2 = 1 ∧ splT exT 3 2 [10, 49] = exS ∧ (splitL exS).length = 4 ∧ exT.count 10 = 2 ∧ ([10, 49] : List UInt8).count 10 = 1 := by decide +kernel
set_option maxRecDepth 100000 in
theorem ex_lin : linT exS 2 = [⟨3, [49], [49]⟩] := by decide +kernel

/-- A new lexer lies wherever it may. -/
theorem RG.here {n₀ : Nat} {W : World} (h : RG n₀ W) : RG W.heap.size W := h.mono h.le (Nat.le_refl _)
theorem Lx.here {W : World} {base X b : Nat} {T : List UInt8} {n : Nat} (h : Lx W base X b T n) {n₀ : Nat} (hn : n₀ ≤ base) : Lx W n₀ X b T n := h.mono hn

set_option maxRecDepth 100000 in
set_option maxHeartbeats 4000000 in
/-- shown(). -/
theorem shown_c (w : World) (hG : RG w.heap.size w) :
    Calls Tryz.prog 9 #[] w fun e W' => e = .returned (.bool true) ∧ Below w.heap.size w W' := by
  obtain ⟨q1, q2, q3, q4, q5, q6⟩ := ex_frL
  have hN := new_ok w hG exT (by decide)
  rw [q5] at hN
  have HN : Hid (Calls Tryz.prog 11 #[.string ⟨#[97, 10, 98, 99, 100, 10, 101]⟩] w fun e W' => ∃ X b, e = .returned (.tuple #[.pointer (some ⟨X, 0, none⟩), .int .i64 0]) ∧ Lx W' w.heap.size X b exT 3 ∧ Below w.heap.size w W') := Lib.hid hN
  have hS : ∀ W1 X b, Below w.heap.size w W1 → Lx W1 w.heap.size X b exT 3 → Calls Tryz.prog 15 #[.pointer (some ⟨X, 0, none⟩), .int .i64 3, .int .i64 2, .string ⟨#[10, 49]⟩] W1 fun e W' => e = .returned (.tuple #[.agg #[.int .i64 1, .int .i64 1, .int .i64 2], .int .i64 0]) ∧ ∃ b', Lx W' w.heap.size X b' exS 5 ∧ Below w.heap.size w W' := fun W1 X b hb hl => by
    have := splice_ok w.heap.size W1 (hG.below hb (Nat.le_refl _)) X b exT 3 (by omega) hl 3 2 [10, 49] (by decide) (by decide)
    rw [q1, q2, q6] at this
    refine this.mono ?_
    rintro e W' ⟨rfl, b', h1, h2, h3⟩
    rw [q3, q6] at h1
    exact ⟨rfl, b', h1, hb.trans (h2.below (Nat.le_trans (Nat.le_refl _) hb.size) hl.baseX hl.ltb.2.1)⟩
  have hR : ∀ W1 X b, Below w.heap.size w W1 → Lx W1 w.heap.size X b exS 5 → Calls Tryz.prog 15 #[.pointer (some ⟨X, 0, none⟩), .int .i64 9, .int .i64 0, .string ⟨#[]⟩] W1 fun e W' => e = .returned (.tuple #[.agg #[.int .i64 0, .int .i64 0, .int .i64 0], .int .i64 10]) ∧ Below W1.heap.size W1 W' := fun W1 X b hb hl =>
    splice_range w.heap.size W1 (hG.below hb (Nat.le_refl _)) X b exS 5 hl 9 0 ⟨#[]⟩ (by unfold okSpan; decide)
  have hI : ∀ W1 X b, Lx W1 w.heap.size X b exS 5 → Calls Tryz.prog 20 #[.pointer (some ⟨X, 0, none⟩), .int .i64 2] W1 fun e W' => ∃ v, e = .returned v ∧ OwnL W' W1.heap.size v [⟨3, [49], [49]⟩] ∧ Below W1.heap.size W1 W' := fun W1 X b hl => by
    have := xline_c W1 _ X b exS 5 hl 2
    rw [ex_lin] at this
    exact this
  have hM : ∀ W1 X b, Lx W1 w.heap.size X b exS 5 → Calls Tryz.prog 18 #[.pointer (some ⟨X, 0, none⟩)] W1 fun e W' => e = .returned (.int .i64 4) ∧ W' = W1 := fun W1 X b hl => by
    have := xlines_c W1 _ X b exS 5 hl
    rw [q4] at this
    exact this
  have hX : ∀ W1 X b, Lx W1 w.heap.size X b exS 5 → Calls Tryz.prog 17 #[.pointer (some ⟨X, 0, none⟩)] W1 fun e W' => e = .returned (.int .i64 5) ∧ W' = W1 := fun W1 X b hl => lexed_c W1 _ X b exS 5 hl
  have hT : ∀ W1 X b, Lx W1 w.heap.size X b exS 5 → Calls Tryz.prog 16 #[.pointer (some ⟨X, 0, none⟩)] W1 fun e W' => e = .returned (.string ⟨#[97, 10, 98, 10, 49, 10, 101]⟩) ∧ Below W1.heap.size W1 W' := fun W1 X b hl => xtext_c W1 _ X b exS 5 hl
  have HS := Lib.hid hS
  have HR := Lib.hid hR
  have HI := Lib.hid hI
  have HM := Lib.hid hM
  have HX := Lib.hid hX
  have HT := Lib.hid hT
  clear hN hS hR hI hM hX hT hG q1 q2 q3 q4 q5 q6
  go_enter Tryz.func9, Tryz.ntmps9
  go_wp2_with fail
  refine HN.out.mono ?_
  rintro e w1 ⟨X, b, rfl, hl1, hb1⟩
  have L1 := Lib.hid hl1
  have B1 := Lib.hid hb1
  clear hl1 hb1
  go_wp2_with fail
  refine (HS.out w1 X b B1.out L1.out).mono ?_
  rintro e w2 ⟨rfl, b2, hl2, hb2⟩
  have L2 := Lib.hid hl2
  have B2 := Lib.hid hb2
  clear hl2 hb2
  go_wp2_with fail
  have C2 := Lib.hid (Row.new w2 33 #[.int .i64 1, .int .i64 1, .int .i64 2])
  obtain ⟨w3, hw3⟩ : ∃ w3, w3 = w2.alloc (.cells #[.int .i64 1, .int .i64 1, .int .i64 2] 33) := ⟨_, rfl⟩
  have ha : Below w2.heap.size w2 (w2.alloc (.cells #[.int .i64 1, .int .i64 1, .int .i64 2] 33)) := (Below.refl _ w2).alloc (Nat.le_refl _) _
  rw [← hw3] at C2 ha ⊢
  have L3 := Lib.hid (L2.out.below ha)
  have B3 := Lib.hid (B2.out.trans (ha.mono B2.out.size))
  obtain ⟨q, hq⟩ : ∃ q, q = w2.heap.size := ⟨_, rfl⟩
  rw [← hq] at C2 ⊢
  clear hw3 ha hq
  refine (HI.out w3 X b2 L3.out).mono ?_
  rintro e w4 ⟨v, rfl, hv, hb4⟩
  have L4 := Lib.hid (L3.out.below hb4)
  have B4 := Lib.hid (B3.out.trans (hb4.mono B3.out.size))
  have C4 := Lib.hid (C2.out.below hb4 C2.out.lt)
  have hT1 := OwnL.tl (L := [⟨3, [49], [49]⟩]) (by decide) hv
  obtain ⟨g, cap, rfl, hg1, hg2⟩ := World.ownsRow.form hv (by decide)
  obtain ⟨g', o', c', hvv, hgl, hc⟩ := hT1.cells (by decide)
  obtain ⟨rfl, rfl⟩ : g = g' ∧ 0 = o' := by injection hvv with h1 h2 h3; injection h1 with h4; injection h4 with h5 h6; exact ⟨h5, h6⟩
  have ax2 := (hc 0 _ rfl).2.2
  have a2 : w4.cell? ⟨g, 2, none⟩ = some (.string ⟨#[49]⟩) := ax2
  have A2 := Lib.hid a2
  have GL := Lib.hid hgl
  clear hv hb4 hT1 hvv hc ax2 a2 hgl
  go_wp2_with fail
  refine (HR.out w4 X b2 B4.out L4.out).mono ?_
  rintro e w5 ⟨rfl, hb5⟩
  have L5 := Lib.hid (L4.out.below hb5)
  have B5 := Lib.hid (B4.out.trans (hb5.mono B4.out.size))
  have C5 := Lib.hid (C4.out.below hb5 C4.out.lt)
  have A5 : Hid (w5.cell? ⟨g, 2, none⟩ = some (.string ⟨#[49]⟩)) := Lib.hid ((hb5.cell (p := ⟨g, 2, none⟩) GL.out).trans A2.out)
  have GL5 : Hid (g < w5.heap.size) := Lib.hid (Nat.lt_of_lt_of_le GL.out hb5.size)
  clear hb5
  have hal : Below w5.heap.size w5 (w5.alloc (.cells #[.int .i64 0, .int .i64 0, .int .i64 0] 33)) := (Below.refl _ w5).alloc (Nat.le_refl _) _
  have L6 := Lib.hid (L5.out.below hal)
  have B6 := Lib.hid (B5.out.trans (hal.mono B5.out.size))
  have A6 := A5.out
  have d0 := C5.out.cell 0
  have d1 := C5.out.cell 1
  have d2 := C5.out.cell 2
  simp only [List.getElem?_toArray, List.getElem?_cons_zero, List.getElem?_cons_succ] at d0 d1 d2
  have C6 := C5.out.below hal C5.out.lt
  have e0 := C6.cell 0
  have e1 := C6.cell 1
  have e2 := C6.cell 2
  have A7 := (hal.cell (p := ⟨g, 2, none⟩) GL5.out).trans A5.out
  have hqlt := C5.out.lt
  have hglt := GL5.out
  simp only [List.getElem?_toArray, List.getElem?_cons_zero, List.getElem?_cons_succ] at e0 e1 e2
  clear hal C6
  go_wp2_with fail
  refine (HM.out _ X b2 L6.out).mono ?_
  rintro e w7 ⟨rfl, rfl⟩
  go_wp2_with fail
  refine (HX.out _ X b2 L6.out).mono ?_
  rintro e w7 ⟨rfl, rfl⟩
  go_wp2_with fail
  refine (HT.out _ X b2 L6.out).mono ?_
  rintro e w7 ⟨rfl, hb7⟩
  have B7 := Lib.hid (B6.out.trans (hb7.mono B6.out.size))
  clear hb7
  go_wp2_with fail
  go_ret
  exact ⟨rfl, B7.out⟩
end Go.Proofs.YtdgffpcbpilkcaaGreatDoor
