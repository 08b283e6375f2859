/- Blocks that change, and others; functions of two numbers; what going through tells. -/
import Derived.Test.YteclpoooggcdoaaGreatDoorArItems
import Derived.Test.YteclpoooggcdoaaGreatDoorArErr
import Derived.Test.YteclpoooggcdoaaGreatDoorNuD
import Derived.Laws.MakeOwn
import Derived.Laws.OwnMore
namespace Go.Proofs.YteclpoooggcdoaaGreatDoor.Ar
open Go Go.RowKit Go.Shelf
attribute [local go_sem] Oper.semAt_some

/-- All but some blocks are as they were. -/
structure Chx (X : Nat → Prop) (W W' : World) : Prop where
  os : W'.os = W.os
  tape : W'.tape = W.tape
  output : W'.output = W.output
  size : W.heap.size ≤ W'.heap.size
  block : ∀ k, k < W.heap.size → ¬ X k → W'.heap[k]? = W.heap[k]?
theorem Chx.refl (X : Nat → Prop) (W : World) : Chx X W W := ⟨rfl, rfl, rfl, Nat.le_refl _, fun _ _ _ => rfl⟩
theorem Chx.of_below {X : Nat → Prop} {W W' : World} (h : Below W.heap.size W W') : Chx X W W' := ⟨h.os, h.tape, h.output, h.size, fun k hk _ => h.block k hk⟩
theorem Chx.trans {X : Nat → Prop} {A B C : World} (h : Chx X A B) (k : Chx X B C) : Chx X A C := ⟨k.os.trans h.os, k.tape.trans h.tape, k.output.trans h.output, Nat.le_trans h.size k.size, fun i hi hx => (k.block i (Nat.lt_of_lt_of_le hi h.size) hx).trans (h.block i hi hx)⟩
theorem Chx.setCell {X : Nat → Prop} (W : World) {p : Addr} (hp : X p.block) (v : Value) : Chx X W (W.setCell p v) :=
  have h := (Below.refl 0 W).setCell (Nat.zero_le p.block) v
  ⟨h.os, h.tape, h.output, by rw [World.size_setCell]; exact Nat.le_refl _, fun k _ hx => Below.heap_setCell W p v k (fun e => hx (by rw [e]; exact hp))⟩
theorem Chx.below {X : Nat → Prop} {W W' : World} (h : Chx X W W') {n : Nat} (hn : n ≤ W.heap.size) (hx : ∀ k, k < n → ¬ X k) : Below n W W' := ⟨h.os, h.tape, h.output, h.size, fun k hk => h.block k (by omega) (hx k hk)⟩
theorem Chx.grown {X : Nat → Prop} {W W' : World} {r : Option Nat} (h : W.grownBy W' r) (hr : ∀ k, r = some k → X k) : Chx X W W' :=
  ⟨h.os, h.tape, h.output, h.size, fun k hk hx => h.block k hk (fun e => hx (hr k e.symm))⟩
theorem Chx.row {X : Nat → Prop} {W W' : World} (h : Chx X W W') {b : Nat} {t : TypeId} {cs : Array Value} (hr : Row W b t cs) (hx : ¬ X b) : Row W' b t cs := (h.block b hr.lt hx).trans hr
/-- A function of two numbers that may be called from a world on. -/
def FnOK (w : World) (fv : Value) (h : Int → Int → Int × Int) : Prop := ∃ f p, fv = .func (.func f) #[] #[.pointer (some ⟨p, 0, none⟩)] ∧ (∀ args W, (callFunc f args).run Tryz.prog W = .ok (.enter f args) W) ∧ ∀ W', Below w.heap.size w W' → ∀ x y, Nu.In x → Nu.In y → Calls Tryz.prog f #[.int .i64 x, .int .i64 y, .pointer (some ⟨p, 0, none⟩)] W' fun e W2 => e = .returned (Nu.numV (h x y)) ∧ Below W'.heap.size W' W2
/-- What comes of the items; the first thing that is wrong. -/
def thrN (h : Int → Int → Int × Int) (L : List (Int × Int)) : List Int := L.map fun p => (h p.1 p.2).1
def thrE (h : Int → Int → Int × Int) (L : List (Int × Int)) : Int := match L.find? (fun p => (h p.1 p.2).2 != 0) with
  | none => 0
  | some p => (h p.1 p.2).2
theorem thrE_ok {h : Int → Int → Int × Int} {L : List (Int × Int)} (ho : ∀ p ∈ L, (h p.1 p.2).2 = 0) : thrE h L = 0 := by
  unfold thrE
  rw [List.find?_eq_none.2 (fun p hp => by simp [ho p hp])]
theorem thrE_bad {h : Int → Int → Int × Int} {pre rest : List (Int × Int)} {x : Int × Int} (ho : ∀ p ∈ pre, (h p.1 p.2).2 = 0) (hx : (h x.1 x.2).2 ≠ 0) : thrE h (pre ++ x :: rest) = (h x.1 x.2).2 := by
  unfold thrE
  rw [List.find?_append, List.find?_eq_none.2 (fun p hp => by simp [ho p hp])]
  simp [hx]
theorem row3 {W : World} {h : Nat} {t : TypeId} {a b c : Value} (r : Row W h t #[a, b, c]) :
    W.cell? ⟨h, 0, none⟩ = some a ∧ W.cell? ⟨h, 1, none⟩ = some b ∧ W.cell? ⟨h, 2, none⟩ = some c ∧ W.frozen? ⟨h, 0, none⟩ = false ∧ W.frozen? ⟨h, 1, none⟩ = false ∧ W.frozen? ⟨h, 2, none⟩ = false := by
  have c0 := r.cell 0
  have c1 := r.cell 1
  have c2 := r.cell 2
  simp at c0 c1 c2
  exact ⟨c0, c1, c2, r.frozen 0, r.frozen 1, r.frozen 2⟩
theorem row_set3 {W : World} {h : Nat} {t : TypeId} {a b c : Value} (r : Row W h t #[a, b, c]) (x y z : Value) : Row (((W.setCell ⟨h, 0, none⟩ x).setCell ⟨h, 1, none⟩ y).setCell ⟨h, 2, none⟩ z) h t #[x, y, z] := by
  have := ((r.set 0 x).set 1 y).set 2 z
  simpa using this
theorem row1 {W : World} {h : Nat} {t : TypeId} {a : Value} (r : Row W h t #[a]) : W.cell? ⟨h, 0, none⟩ = some a ∧ W.frozen? ⟨h, 0, none⟩ = false := by
  have c0 := r.cell 0
  simp at c0
  exact ⟨c0, r.frozen 0⟩
theorem row_set1 {W : World} {h : Nat} {t : TypeId} {a : Value} (r : Row W h t #[a]) (x : Value) : Row (W.setCell ⟨h, 0, none⟩ x) h t #[x] := by
  have := r.set 0 x
  simpa using this
/-- A row that is owned stays so where its block stays. -/
theorem IOwn.keep {W W' : World} {base : Nat} {v : Value} {L : List Int} (h : IOwn W base v L) (hk : ∀ g, v.ownBlock = some g → W'.heap[g]? = W.heap[g]?) : IOwn W' base v L := by
  refine ⟨h.1, ?_⟩
  rcases h.2 with hn | ⟨g, cap, cur, e1, e2, e3, e4⟩
  · exact .inl hn
  · exact .inr ⟨g, cap, cur, e1, e2, (hk g (by rw [e1]; rfl)).trans e3, e4⟩
theorem IOwn.below {W W' : World} {base : Nat} {v : Value} {L : List Int} (h : IOwn W base v L) (hb : Below W.heap.size W W') : IOwn W' base v L := by
  refine ⟨h.1, ?_⟩
  rcases h.2 with hn | ⟨g, cap, cur, e1, e2, e3, e4⟩
  · exact .inl hn
  · exact .inr ⟨g, cap, cur, e1, e2, (hb.block g (Array.getElem?_eq_some_iff.1 e3).1).trans e3, e4⟩
theorem IOwn.mono {W : World} {b b' : Nat} {v : Value} {L : List Int} (h : IOwn W b v L) (hb : b' ≤ b) : IOwn W b' v L := by
  refine ⟨h.1, ?_⟩
  rcases h.2 with hn | ⟨g, cap, cur, e1, e2, e3⟩
  · exact .inl hn
  · exact .inr ⟨g, cap, cur, e1, Nat.le_trans hb e2, e3⟩
theorem IOwn.form {W : World} {b : Nat} {v : Value} {L : List Int} (h : IOwn W b v L) : ∃ a c, v = .slice a L.length c ∧ L.length ≤ c ∧ c ≤ maxLen := by
  rcases h.2 with ⟨rfl, h0⟩ | ⟨g, cap, cur, rfl, _, _, h1, h2, _⟩
  · exact ⟨none, 0, by rw [h0], by omega, by decide⟩
  · exact ⟨_, cap, rfl, h1, h2⟩
theorem own_off {W : World} {b k : Nat} {t : TypeId} {v : Value} {L : List Int} {cs : Array Value} (h : IOwn W b v L) (hr : Row W k t cs) (hne : t ≠ 2) : v.ownBlock ≠ some k := by
  rcases h.2 with ⟨rfl, _⟩ | ⟨g, cap, cur, rfl, _, hg, _⟩
  · intro e; cases e
  · intro e
    have e' : g = k := by simpa [Value.ownBlock] using e
    subst e'
    rw [show W.heap[g]? = _ from hr] at hg
    cases hg
    exact hne rfl
theorem own_base {W : World} {b k : Nat} {v : Value} {L : List Int} (h : IOwn W b v L) (e : v.ownBlock = some k) : b ≤ k ∧ k < W.heap.size := by
  rcases h.2 with ⟨rfl, _⟩ | ⟨g, cap, cur, rfl, h1, hg, _⟩
  · cases e
  · have e' : g = k := by simpa [Value.ownBlock] using e
    subst e'
    exact ⟨h1, (Array.getElem?_eq_some_iff.1 hg).1⟩
theorem own_off3 {W : World} {b k : Nat} {v : Value} {L : List Int} {cs : Array Value} (h : IOwn W b v L) (hr : Row W k 24 cs) (x y z : Value) : IOwn (((W.setCell ⟨k, 0, none⟩ x).setCell ⟨k, 1, none⟩ y).setCell ⟨k, 2, none⟩ z) b v L :=
  h.keep fun g e => by
    have hne : g ≠ k := fun e2 => own_off h hr (by decide) (by rw [e, e2])
    rw [Below.heap_setCell _ ⟨k, 2, none⟩ z g hne, Below.heap_setCell _ ⟨k, 1, none⟩ y g hne, Below.heap_setCell _ ⟨k, 0, none⟩ x g hne]
/-- What the operations of through's first region come to. -/
def PhT (b : Nat) (vs : List Value) (N : Nat) (r : Bool) (i : Nat) (v : Value) (W : World) : Prop := match i with
  | 10 => ∃ g, v = .slice (some ⟨g, 0, none⟩) 0 N ∧ IOwn W b (.slice (some ⟨g, 0, none⟩) 0 N) []
  | 11 => ∃ g, v = .agg #[.bool r, .bool false, .slice (some ⟨g, 0, none⟩) 0 N] ∧ IOwn W b (.slice (some ⟨g, 0, none⟩) 0 N) []
  | 12 => ∃ h, v = .pointer (some ⟨h, 0, none⟩) ∧ b ≤ h ∧ Row W h 24 #[.bool false, .bool false, .slice none 0 0]
  | 13 => True
  | k => v = vs.getD k undef
theorem PhT.below {b : Nat} {vs : List Value} {N : Nat} {r : Bool} {i : Nat} {v : Value} {W W' : World} (hb : Below W.heap.size W W') (h : PhT b vs N r i v W) : PhT b vs N r i v W' := by
  unfold PhT at h ⊢
  split
  · exact h.imp fun g h => ⟨h.1, h.2.below hb⟩
  · exact h.imp fun g h => ⟨h.1, h.2.below hb⟩
  · exact h.imp fun g h => ⟨h.1, h.2.1, h.2.2.below hb h.2.2.lt⟩
  · trivial
  · simpa using h
theorem below_put {n l : Nat} {w X : World} {r r' : Loop} (h : Below n w X) (hn : n ≤ l) (hl : X.heap[l]? = some (.loop r)) : Below n w (X.putObj l (.loop r')) :=
  h.trans ((Below.refl n X).grown (grownBy_putObj' X l _) (by have := (Array.getElem?_eq_some_iff.1 hl).1; omega) (fun k e => by cases e; exact hn))
theorem keeps_below {X Y : World} (B : Nat) (h : Below X.heap.size X Y) : KeepsFrom B X Y := ⟨h.size, fun k _ _ ho _ => (h.block k (Array.getElem?_eq_some_iff.1 ho).1).trans ho⟩
theorem own_cells {W : World} {b k : Nat} {v : Value} {L : List Int} (h : IOwn W b v L) (e : v.ownBlock = some k) : ∃ cur, W.heap[k]? = some (.cells cur 2 (0, 0)) := by
  rcases h.2 with ⟨rfl, _⟩ | ⟨g, cap, cur, rfl, _, hg, _⟩
  · cases e
  · have e' : g = k := by simpa [Value.ownBlock] using e
    subst e'
    exact ⟨cur, hg⟩
/-- What through's loop keeps. -/
def LoopI (Kp : World → World → Prop) (X : Nat → Prop) (h : Int → Int → Int × Int) (PL : List (Int × Int)) (w W8 : World) (h0 base B6 B7 : Nat) (r : Bool) (pre : List (Int × Int)) (Wc : World) : Prop :=
  Kp W8 Wc ∧ Below h0 w Wc ∧ (∃ rest, PL = pre ++ rest) ∧ (∀ q ∈ pre, (h q.1 q.2).2 = 0) ∧ Row Wc B7 44 #[.nilIface] ∧ ∃ v, Row Wc B6 24 #[.bool r, .bool false, v] ∧ IOwn Wc base v (thrN h pre) ∧ ∀ g, v.ownBlock = some g → X g ∨ W8.heap.size ≤ g
section
variable {Kp : World → World → Prop} {X : Nat → Prop} {h : Int → Int → Int × Int} {PL : List (Int × Int)} {w W8 : World} {h0 base B6 B7 : Nat} {r : Bool}
theorem LoopI.step (hKB : ∀ A B : World, Below A.heap.size A B → Kp A B) (hKt : ∀ {A B C : World}, Kp A B → Kp B C → Kp A C) (hKs : ∀ A B : World, Kp A B → A.heap.size ≤ B.heap.size) (h8 : h0 ≤ W8.heap.size) {pre : List (Int × Int)} {A B : World} (hi : LoopI Kp X h PL w W8 h0 base B6 B7 r pre A) (hb : Below A.heap.size A B) : LoopI Kp X h PL w W8 h0 base B6 B7 r pre B := by
  obtain ⟨h1, h2, h3, h4, h5, v, h6, h7, h9⟩ := hi
  exact ⟨hKt h1 (hKB _ _ hb), h2.trans (hb.mono (Nat.le_trans h8 (hKs _ _ h1))), h3, h4, h5.below hb h5.lt, v, h6.below hb h6.lt, h7.below hb, h9⟩
theorem LoopI.put (hKt : ∀ {A B C : World}, Kp A B → Kp B C → Kp A C) (hKp : ∀ (W : World) (l : Nat) (r r' : Loop), W8.heap.size ≤ l → W.heap[l]? = some (.loop r) → Kp W (W.putObj l (.loop r'))) (h8 : h0 ≤ W8.heap.size) (h6l : B6 < W8.heap.size) (h7l : B7 < W8.heap.size) {pre : List (Int × Int)} {A : World} (l : Nat) (q q' : Loop) (hi : LoopI Kp X h PL w W8 h0 base B6 B7 r pre A) (hl : W8.heap.size ≤ l) (hA : A.heap[l]? = some (.loop q)) : LoopI Kp X h PL w W8 h0 base B6 B7 r pre (A.putObj l (.loop q')) := by
  obtain ⟨h1, h2, h3, h4, h5, v, h6, h7, h9⟩ := hi
  refine ⟨hKt h1 (hKp _ _ _ _ hl hA), below_put h2 (by omega) hA, h3, h4, (World.putObj_heap_other (by omega)).trans h5, v, (World.putObj_heap_other (by omega)).trans h6, h7.keep (fun g e => World.putObj_heap_other (fun e2 => ?_)), h9⟩
  subst e2
  obtain ⟨cur, hc⟩ := own_cells h7 e
  rw [hc] at hA
  cases hA
end
theorem getD_in {L : List Int} (hL : InL L) (k : Nat) : Nu.In (L.getD k 0) := by
  rw [List.getD_eq_getElem?_getD]
  cases hk : L[k]? with
  | none => exact ⟨by decide, by decide⟩
  | some x => exact hL x (List.mem_of_getElem? hk)
theorem pairs_in {a b : Ary} (ha : InL a.n) (hb : InL b.n) : ∀ q ∈ pairsA a b, Nu.In q.1 ∧ Nu.In q.2 := by
  intro q hq
  obtain ⟨i, _, rfl⟩ := List.mem_map.1 hq
  constructor
  · show Nu.In (itemA a i)
    unfold itemA
    split <;> exact getD_in ha _
  · show Nu.In (itemA b i)
    unfold itemA
    split <;> exact getD_in hb _
theorem own_slice {W : World} {b m c : Nat} {a : Option Addr} {L : List Int} (h : IOwn W b (.slice a m c) L) : L.length = m := by
  obtain ⟨_, _, e, _, _⟩ := h.form
  injection e with _ e _
  exact e.symm
end Go.Proofs.YteclpoooggcdoaaGreatDoor.Ar
