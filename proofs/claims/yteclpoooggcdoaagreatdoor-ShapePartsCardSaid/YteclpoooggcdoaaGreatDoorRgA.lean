/- Merged by gen/ar_merge.py: Pure, PgRow, PgRng, LxRng, Det, GyE, PaRng, GyD, NqVal, NqChain, NqChn. -/
import Derived.Below
import Derived.RangeFuncNested
import Derived.Scope
import Derived.RangeFuncBound
import Derived.Laws.Rows
import Derived.Laws.Tables
import Derived.RangeFuncWrites
import Derived.OrdersIn
import Derived.OwnWalkIn
/- Plain facts on pieces: where each begins, what a text is cut into. Nothing of the program stands here. -/
namespace Go.Proofs.YteclpoooggcdoaaGreatDoor
open Go Go.RowKit

section
variable {F : Fence} {n : Nat} {P : Program} {b : Frame} {a : Act} {k : List Item} {cs : List Frame} {w : World} {Q : Exit → Act → World → Prop}
theorem stepR_scope {c : Code} : step P (lone (b.atR a (.code (.scope c) :: k)) cs w) = .next (lone (b.atR a (.code c :: .inScope c :: k)) cs w) :=
  step_lone_go (by simp [stepG, stepG.exec, Frame.atR])
theorem stepR_inScope {c : Code} : step P (lone (b.atR a (.inScope c :: k)) cs w) = .next (lone (b.atR a k) cs w) :=
  step_lone_go (by simp [stepG, stepG.exec, Frame.atR])
/-- A scope that no goto leaves or turns back in, inside a fence. -/
theorem wpIn_scope_straight {c : Code} (h : c.wpIn F n P (Exit.noGoto Q) a w) : (Code.scope c).wpIn F n P Q a w := by
  intro b k cs hro hb hr
  have h0 : (lone (b.atR a (.code (.scope c) :: k)) cs w).fenced P F := fenced_calm hb hr rfl
  obtain ⟨e, a₁, w₁, hq, harr⟩ := h b (.inScope c :: k) cs hro hb hr
  cases e with
  | normal => exact ⟨.normal, a₁, w₁, hq, .head h0 stepR_scope (StepsIn.trans harr (.one (fenced_calm hb hr rfl) stepR_inScope))⟩
  | exit id =>
    have hx : exitTo id (.inScope c :: k) = exitTo id k := by simp [exitTo]
    exact ⟨_, a₁, w₁, hq, fun k' hk => .head h0 stepR_scope (harr.1 k' (by rw [hx]; exact hk)),
      fun hr' hk => let ⟨k₁, h1, h2⟩ := harr.2 hr' (by rw [hx]; exact hk); ⟨k₁, h1, .head h0 stepR_scope h2⟩⟩
  | goto l => exact hq.elim
  | ret => exact ⟨_, a₁, w₁, hq, .of_steps (.one h0 stepR_scope) harr⟩
  | panic ch => exact ⟨_, a₁, w₁, hq, .of_steps (.one h0 stepR_scope) harr⟩
  | outgrown => exact ⟨_, a₁, w₁, hq, .of_steps (.one h0 stepR_scope) harr⟩
end

/-- Where piece k begins. -/
def offs (S : Nat → ByteArray) : Nat → Nat
  | 0 => 0
  | k + 1 => offs S k + (S k).size
theorem offs_succ (S : Nat → ByteArray) (k : Nat) : offs S (k + 1) = offs S k + (S k).size := rfl
theorem offs_mono (S : Nat → ByteArray) : ∀ {j k : Nat}, j ≤ k → offs S j ≤ offs S k := by
  intro j k h
  induction k with
  | zero => obtain rfl : j = 0 := by omega
            exact Nat.le_refl _
  | succ k ih =>
    rcases Nat.lt_or_ge j (k + 1) with h1 | h1
    · have := ih (by omega); rw [offs_succ]; omega
    · obtain rfl : j = k + 1 := by omega
      exact Nat.le_refl _

/-- A piece's number. -/
abbrev Ix (len : Nat) : Type := { k : Nat // k < len }
/-- The pieces have come in their order. -/
def InOrder {len : Nat} (pre : List (Ix len)) : Prop := pre.map (·.1) = List.range pre.length
theorem inOrder_nil {len : Nat} : InOrder ([] : List (Ix len)) := rfl
theorem inOrder_snoc {len : Nat} {pre : List (Ix len)} {x : Ix len} : InOrder (pre ++ [x]) ↔ InOrder pre ∧ x.1 = pre.length := by
  unfold InOrder
  rw [List.map_append, List.length_append, List.length_singleton, List.range_succ]
  constructor
  · intro h
    have h' := List.append_inj' h rfl
    exact ⟨h'.1, by simpa using h'.2⟩
  · rintro ⟨h1, h2⟩
    rw [h1]; simp [h2]
theorem inOrder_of {len k : Nat} {pre : List (Ix len)} (h : pre.map (·.1) = List.range k) : InOrder pre ∧ pre.length = k := by
  have hl := congrArg List.length h
  simp at hl
  exact ⟨by unfold InOrder; rw [h, hl], hl⟩
theorem range_snoc {len k : Nat} {pre : List (Ix len)} (h : pre.map (·.1) = List.range k) (hk : k < len) : (pre ++ [(⟨k, hk⟩ : Ix len)]).map (·.1) = List.range (k + 1) := by
  rw [List.map_append, h, List.range_succ]; rfl

/-- WHAT A ROUND KEEPS: what lay below n₀; and the cells that have been laid from n₁ on (the iterator's own boxes among them). -/
structure Keeps (n₀ n₁ : Nat) (W W' : World) : Prop where
  below : Below n₀ W W'
  cells : ∀ (k : Nat) (c : Array Value) (t : TypeId) (m : Nat × Nat), n₁ ≤ k → W.heap[k]? = some (.cells c t m) → W'.heap[k]? = some (.cells c t m)
theorem Keeps.refl (n₀ n₁ : Nat) (W : World) : Keeps n₀ n₁ W W := ⟨Below.refl _ _, fun _ _ _ _ _ h => h⟩
theorem Keeps.trans {n₀ n₁ : Nat} {X Y Z : World} (h : Keeps n₀ n₁ X Y) (k : Keeps n₀ n₁ Y Z) : Keeps n₀ n₁ X Z :=
  ⟨h.below.trans k.below, fun i c t m hi hc => k.cells i c t m hi (h.cells i c t m hi hc)⟩
theorem Keeps.alloc {n₀ n₁ : Nat} (W : World) (h0 : n₀ ≤ W.heap.size) (o : Obj) : Keeps n₀ n₁ W (W.alloc o) :=
  ⟨(Below.refl _ W).alloc h0 o, fun k _ _ _ _ hc => (Below.heap_alloc W o k (Array.getElem?_eq_some_iff.1 hc).1).trans hc⟩
theorem Keeps.setCell {n₀ n₁ : Nat} (W : World) {p : Addr} (h0 : n₀ ≤ p.block) (h1 : p.block < n₁) (u : Value) : Keeps n₀ n₁ W (W.setCell p u) :=
  ⟨(Below.refl _ W).setCell h0 u, fun k _ _ _ hk hc => (Below.heap_setCell W p u k (by omega)).trans hc⟩
theorem Keeps.drew {n₀ n₁ : Nat} (W : World) : Keeps n₀ n₁ W W.drew := ⟨(Below.refl _ W).drew, fun _ _ _ _ _ h => h⟩
theorem Keeps.grown {n₀ n₁ : Nat} {W W' : World} {r : Nat} (hg : W.grownBy W' (some r)) (h0 : n₀ ≤ W.heap.size) (h1 : n₀ ≤ r) (h2 : r < n₁) : Keeps n₀ n₁ W W' :=
  ⟨(Below.refl _ W).grown hg h0 (fun k e => by cases e; exact h1), fun k _ _ _ hk hc => (hg.block k (Array.getElem?_eq_some_iff.1 hc).1 (fun e => by cases e; omega)).trans hc⟩
theorem keeps_t {n₀ n₁ : Nat} {A B C : World} (h : Keeps n₀ n₁ A B) (k : Keeps n₀ n₁ B C) : Keeps n₀ n₁ A C := h.trans k
theorem keeps_b {n₀ n₁ : Nat} {w : World} (hn : n₀ ≤ w.heap.size) (W : World) (l : Nat) (o o' : Obj) (hl : w.heap.size ≤ l) (h : W.heap[l]? = some o) (hc : o.isCells = false) (hw : o.isWalk = false) : Keeps n₀ n₁ W (W.putObj l o') := by
  refine ⟨belowK_b hn W l o o' hl h hc hw, fun k _ _ _ _ hk => ?_⟩
  refine (World.putObj_heap_other (fun e => ?_)).trans hk
  subst e
  rw [hk] at h; cases h; cases hc
theorem Keeps.cell {n₀ n₁ : Nat} {W W' : World} (h : Keeps n₀ n₁ W W') {k : Nat} {t : TypeId} {v : Value} (hk : n₁ ≤ k) (hb : Boxed W k t v) : Boxed W' k t v := h.cells k _ _ _ hk hb

end Go.Proofs.YteclpoooggcdoaaGreatDoor
/- A block of cells, whole: what keeps it, what turns it. Nothing of the program stands here. -/
namespace Go.Proofs.YteclpoooggcdoaaGreatDoor
open Go Go.RowKit

/-- BLOCK k HOLDS the cells cs; nothing of it is frozen. -/
def Row (W : World) (k : Nat) (t : TypeId) (cs : Array Value) : Prop := W.heap[k]? = some (.cells cs t (0, 0))
theorem Row.new (w : World) (t : TypeId) (cs : Array Value) : Row (w.alloc (.cells cs t)) w.heap.size t cs := World.alloc_heap_new w _
theorem Row.at (w : World) (t : TypeId) (cs : Array Value) (k : Nat) (h : w.heap.size = k) : Row (w.alloc (.cells cs t)) k t cs := by subst h; exact Row.new w t cs
theorem Row.lt {W : World} {k : Nat} {t : TypeId} {cs : Array Value} (h : Row W k t cs) : k < W.heap.size := (Array.getElem?_eq_some_iff.1 h).1
theorem Row.alloc {W : World} {k : Nat} {t : TypeId} {cs : Array Value} (h : Row W k t cs) (o : Obj) : Row (W.alloc o) k t cs := (Below.heap_alloc W o k h.lt).trans h
theorem Row.drew {W : World} {k : Nat} {t : TypeId} {cs : Array Value} (h : Row W k t cs) : Row W.drew k t cs := h
theorem Row.below {n : Nat} {W W' : World} {k : Nat} {t : TypeId} {cs : Array Value} (h : Row W k t cs) (hb : Below n W W') (hn : k < n) : Row W' k t cs := (hb.block k hn).trans h
theorem Row.kept {X Y : World} {row : Option Nat} {k : Nat} {cs : Array Value} {t : TypeId} (h : Row X k t cs) (hg : X.grownBy Y row) (hr : ∀ r, row = some r → ∃ o, X.heap[r]? = some o ∧ o.isCells = false) : Row Y k t cs :=
  (hg.block k h.lt (fun e => by
    obtain ⟨o, ho, hc⟩ := hr k e.symm
    rw [show X.heap[k]? = _ from h] at ho; cases ho; cases hc)).trans h
theorem Row.cell {X : World} {k : Nat} {cs : Array Value} {t : TypeId} (h : Row X k t cs) (i : Nat) : X.cell? ⟨k, i, none⟩ = cs[i]? := cell_of_row X k i cs t (0, 0) h
theorem Row.frozen {X : World} {k : Nat} {cs : Array Value} {t : TypeId} (h : Row X k t cs) (i : Nat) : X.frozen? ⟨k, i, none⟩ = false := by
  unfold Row at h
  simp [World.frozen?, h]
theorem Row.other {X : World} {k j i : Nat} {cs : Array Value} {t : TypeId} (h : Row X k t cs) (hne : k ≠ j) (v : Value) : Row (X.setCell ⟨j, i, none⟩ v) k t cs := (Below.heap_setCell X ⟨j, i, none⟩ v k hne).trans h
theorem Row.set {X : World} {k : Nat} {cs : Array Value} {t : TypeId} (h : Row X k t cs) (i : Nat) (v : Value) : Row (X.setCell ⟨k, i, none⟩ v) k t (cs.setIfInBounds i v) := by
  rw [setCell_eq_setRow X k i cs t (0, 0) v h]
  exact setRow_heap X k cs _ t (0, 0) h
theorem Row.keeps {n₀ n₁ : Nat} {W W' : World} (h : Keeps n₀ n₁ W W') {k : Nat} {t : TypeId} {cs : Array Value} (hk : n₁ ≤ k) (hb : Row W k t cs) : Row W' k t cs := h.cells k _ _ _ hk hb
end Go.Proofs.YteclpoooggcdoaaGreatDoor
/- A range over a function whose iterator writes boxes of its own: where what the loop says of its own cells speaks of nothing that was laid since it began. Nothing of the program stands here. -/
namespace Go.Proofs.YteclpoooggcdoaaGreatDoor
open Go Go.RowKit

/-- I abides all that leaves what lay below B. -/
def AbB {β : Type} (B : Nat) (I : β → World → Prop) : Prop := ∀ s X Y, I s X → Below B X Y → I s Y
theorem AbB.mono {β : Type} {B B' : Nat} {I : β → World → Prop} (h : AbB B I) (hB : B ≤ B') : AbB B' I := fun s X Y hs hb => h s X Y hs (hb.mono hB)

/-- AN ITERATOR's WORD, to loops that speak of what lay before it began: it may write what it has laid. -/
def SeqStopsB {α : Type} (F : Fence) (n : Nat) (P : Program) (g : Nat) (lb : Array Value) (encs : α → Array Value) (Kp : World → World → Prop) (S Sp : List α → Prop) (N : Nat) (w : World) : Prop :=
  ∀ (l : Nat) (J Jx : List α → World → Prop) (W : World), Below w.heap.size w W → AbB W.heap.size J → AbB W.heap.size Jx →
    (∀ pre x W1, J pre W1 → pre.length < N → W.heap.size ≤ W1.heap.size → YieldAt F (n - 1) P l (encs x) W1 fun e W' =>
      (e = .returned (.bool true) ∧ J (pre ++ [x]) W' ∧ Kp W1 W') ∨ (e = .returned (.bool false) ∧ Jx (pre ++ [x]) W')) →
    J [] W →
    CallsIn F n P g (#[.func (.yield l) #[] #[]] ++ lb) W fun e W' => (∃ v, e = .returned v) ∧ ((∃ xs, S xs ∧ J xs W') ∨ (∃ pre, Sp pre ∧ Jx pre W'))

section
variable {F : Fence} {n : Nat} {P : Program} {w : World}

/-- The loop's own record. -/
def loopRec (fn : FuncId) (tmps : Array Value) (ps : Array Tmp) (assign body : Code) (B : Nat) (st : LoopState) (pe : Option Code) : Loop :=
  { state := st, pending := pe, fn, tmps, params := ps, assign, body, defers := B }
/-- The two blocks that the loop lays. -/
def Books (W : World) (B : Nat) (r : Loop) : Prop := W.heap[B + 1]? = some (.loop r) ∧ W.heap[B]? = some (.deferred (some []))
theorem Books.below {X Y : World} {B : Nat} {r : Loop} (h : Books X B r) (hb : Below (B + 2) X Y) : Books Y B r := ⟨(hb.block _ (by omega)).trans h.1, (hb.block _ (by omega)).trans h.2⟩
theorem Books.keeps {X Y : World} {B : Nat} {r : Loop} (h : Books X B r) (hk : KeepsFrom B X Y) : Books Y B r := ⟨hk.same _ _ (by omega) h.1 rfl, hk.same _ _ (Nat.le_refl _) h.2 rfl⟩
theorem Books.put {X : World} {B : Nat} {r : Loop} (h : Books X B r) (r' : Loop) : Books (X.putObj (B + 1) (.loop r')) B r' :=
  ⟨World.putObj_heap_same (Array.getElem?_eq_some_iff.1 h.1).1, (World.putObj_heap_other (by omega)).trans h.2⟩
theorem AbB.put {β : Type} {B : Nat} {I : β → World → Prop} (h : AbB B I) {s : β} {W : World} {l : Nat} {o : Obj} (o' : Obj) (hs : I s W) (hB : B ≤ l) (hl : W.heap[l]? = some o) : I s (W.putObj l o') :=
  h s _ _ hs ((Below.refl B W).grown (grownBy_putObj' W l o') (by have := (Array.getElem?_eq_some_iff.1 hl).1; omega) (fun k e => by cases e; exact hB))

theorem wpIn_rangeFunc_ownB {α : Type} {g : Operand} {ps : Array Tmp} {assign body : Code} {Q : Exit → Act → World → Prop} {a : Act} {w : World}
    (hro : F.round = none) (h1 : 1 ≤ n) {gf : Nat} {lb : Array Value} (hg : a.eval g = .func (.func gf) #[] lb) (hFg : F.fn gf) (eg : ∀ args w, (callFunc gf args).run P w = .ok (.enter gf args) w)
    {encs : α → Array Value} {Kp : World → World → Prop} {S Sp : List α → Prop} {N : Nat} {w0 : World} (hseq : SeqStopsB F (n - 1) P gf lb encs Kp S Sp N w0)
    (hKt : ∀ {A B C : World}, Kp A B → Kp B C → Kp A C) (hKb : ∀ (W : World) (l : Nat) (o o' : Obj), w.heap.size ≤ l → W.heap[l]? = some o → o.isCells = false → o.isWalk = false → Kp W (W.putObj l o')) (hb0 : Below w0.heap.size w0 w) (hps : ∀ x, (encs x).size = ps.size)
    (I : List α → World → Prop) (Ix : Code → List α → World → Prop) (hI : AbB w.heap.size I) (hIx : ∀ c, AbB w.heap.size (Ix c)) (h0 : I [] w) (Ax : α → Act → World → Prop) (hAx : ∀ x a', OwnFrom w.heap.size (fun (_ : Unit) W => Ax x a' W))
    (hassign : ∀ (l : Nat) (pre : List α) (x : α) (W : World) (K : Act → World → Prop), I pre W → w.heap.size ≤ W.heap.size → (∀ a' W', KeepsFrom w.heap.size W W' → Kp W W' → I pre W' → Ax x a' W' → K a' W') →
      assign.wpIn (F.inRound l) (n - 1 - 1) P (Exit.then K (fun _ _ _ => False)) { tmps := (ps.zip (encs x)).foldl (fun t (p, v) => t.setIfInBounds p v) a.tmps, defers := [] } W)
    (hbody : ∀ (l : Nat) (pre : List α) (x : α) (a' : Act) (W : World), w.heap.size ≤ l → (∃ r, W.heap[l]? = some (.loop r)) → I pre W → Ax x a' W → pre.length < N → body.wpIn (F.inRound l) (n - 1 - 1) P (ownPostG w.heap.size Kp I Ix (pre ++ [x]) W) a' W)
    (hdone : ∀ (D : Nat) (xs : List α) (W : World), w.heap.size ≤ D → S xs → I xs W → W.heap[D]? = some (.deferred (some [])) → Q .normal { a with defers := { target := .collected D, args := #[] } :: a.defers } W)
    (hstop : ∀ (D : Nat) (c : Code) (pre : List α) (W : World), w.heap.size ≤ D → Sp pre → Ix c pre W → W.heap[D]? = some (.deferred (some [])) → c.wpIn F n P Q { a with defers := { target := .collected D, args := #[] } :: a.defers } W) :
    (Code.rangeFunc g ps assign body).wpIn F n P Q a w := by
  refine wpIn_rangeFunc fun fn hfn => ?_
  rw [hro]
  obtain ⟨B, hB⟩ : ∃ B, B = w.heap.size := ⟨_, rfl⟩
  rw [← hB] at hI hIx hAx hassign hbody hdone hstop hKb
  obtain ⟨rec, hrec⟩ : ∃ rec : LoopState → Option Code → Loop, rec = loopRec fn a.tmps ps assign body B := ⟨_, rfl⟩
  obtain ⟨W1, hW1⟩ : ∃ W1, W1 = (w.alloc (.deferred (some []))).alloc (.loop (rec .ready none)) := ⟨_, rfl⟩
  have hs1 : W1.heap.size = B + 2 := by rw [hW1, hB]; simp
  have hbB : Below B w W1 := by rw [hW1, hB]; exact ((Below.refl _ w).alloc (Nat.le_refl _) _).alloc (by simp) _
  have hbk : Books W1 B (rec .ready none) := by
    rw [hW1, hB]
    refine ⟨?_, (Below.heap_alloc _ _ _ (by simp)).trans (World.alloc_heap_new w _)⟩
    have := World.alloc_heap_new (w.alloc (.deferred (some []))) (.loop (rec .ready none))
    rwa [World.size_alloc] at this
  refine ⟨B + 1, [{ target := .collected B, args := #[] }], W1, { target := .fn (.func gf) lb, args := #[.func (.yield (B + 1)) #[] #[]] }, W1, gf, #[.func (.yield (B + 1)) #[] #[]] ++ lb, W1, ?_, ?_, ?_, ?_, fun _ => h1, ?_⟩
  · rw [hW1, hrec, hB]; exact run_enterLoop_outer _ _ _ _ _
  · simp only [resolve, hg]
    simp [go_sem]
  · intro f' hf'; simp [Target.leads] at hf'; subst hf'; exact hFg
  · simp [invoke, go_sem, eg]
  refine (hseq (B + 1) (fun pre W => (I pre W ∧ B + 2 ≤ W.heap.size) ∧ Books W B (rec .ready none)) (fun pre W => ∃ c, (Ix c pre W ∧ B + 2 ≤ W.heap.size) ∧ Books W B (rec .done (some c))) W1 (hb0.trans (hbB.mono (by rw [hB]; exact hb0.size))) ?_ ?_ ?_ ⟨⟨hI _ _ _ h0 hbB, by omega⟩, hbk⟩).mono ?_
  · rintro s X Y ⟨⟨hi, hs⟩, hb⟩ hXY
    exact ⟨⟨hI _ _ _ hi (hXY.mono (by omega)), Nat.le_trans hs hXY.size⟩, hb.below (hXY.mono (by omega))⟩
  · rintro s X Y ⟨c, ⟨hi, hs⟩, hb⟩ hXY
    exact ⟨c, ⟨hIx c _ _ _ hi (hXY.mono (by omega)), Nat.le_trans hs hXY.size⟩, hb.below (hXY.mono (by omega))⟩
  · rintro pre x W ⟨⟨hi, hsW⟩, hbk⟩ hlen _
    have hy := run_yield (P := P) (args := encs x) hbk.1 (by rw [hrec]; exact hps x)
    rw [hrec] at hy
    refine ⟨fn, _, assign, body, hy, roundIn_of_wpIn hfn (hassign _ pre x W _ hi (by omega) ?_)⟩
    intro a' Wa hka hkpa hia hax
    have hba := hbk.keeps hka
    have hla := hba.1
    refine ⟨_, run_beginRound hla (by rw [hrec]; rfl), ?_⟩
    have hb2 := hba.put { rec .ready none with state := .busy }
    have hw2 : Kp Wa (Wa.putObj (B + 1) (.loop { rec .ready none with state := .busy })) := hKb _ _ _ _ (by omega) hla rfl rfl
    refine wpIn_mono (hbody _ pre x a' _ (by omega) ⟨_, hb2.1⟩ (hI.put _ hia (by omega) hla) ((hAx x a').putObj (s := ()) _ hax (by omega) hla rfl) hlen) ?_
    have fin : ∀ (jump : Option Code) (W3 : World), KeepsFrom B (Wa.putObj (B + 1) (.loop { rec .ready none with state := .busy })) W3 →
        (Instr.endRound (B + 1) jump).run P W3 = .ok (.bool jump.isNone) (W3.putObj (B + 1) (.loop (rec (if jump.isNone then .ready else .done) jump))) ∧
        W3.heap[B + 1]? = some (.loop { rec .ready none with state := .busy }) ∧ B + 2 ≤ W3.heap.size ∧ Books (W3.putObj (B + 1) (.loop (rec (if jump.isNone then .ready else .done) jump))) B (rec (if jump.isNone then .ready else .done) jump) := fun jump W3 hk3 => by
      have hb3 := hb2.keeps hk3
      have hr := run_endRound (P := P) jump hb3.1
      have hlt := (Array.getElem?_eq_some_iff.1 hb3.1).1
      refine ⟨?_, hb3.1, by omega, hb3.put _⟩
      rw [hrec] at hr ⊢
      exact hr
    have hsz : ∀ (W3 : World) (o : Obj), (W3.putObj (B + 1) o).heap.size = W3.heap.size := fun W3 o => by simp [World.putObj]
    rintro e a3 W3 hp
    cases e with
    | normal =>
      obtain ⟨hk3, hkp3, hi3⟩ := hp
      obtain ⟨hr, hl3, hs3, hb4⟩ := fin none W3 hk3
      exact ⟨_, _, hr, .inl ⟨rfl, ⟨⟨hI.put _ hi3 (by omega) hl3, by rw [hsz]; exact hs3⟩, hb4⟩, hKt hkpa (hKt (hKt hw2 hkp3) (hKb _ _ _ _ (by omega) hl3 rfl rfl))⟩⟩
    | ret =>
      obtain ⟨hk3, hi3⟩ := hp
      obtain ⟨hr, hl3, hs3, hb4⟩ := fin (some .ret) W3 hk3
      exact ⟨_, _, hr, .inr ⟨rfl, .ret, ⟨(hIx _).put _ hi3 (by omega) hl3, by rw [hsz]; exact hs3⟩, hb4⟩⟩
    | exit id =>
      obtain ⟨hk3, hi3⟩ := hp
      obtain ⟨hr, hl3, hs3, hb4⟩ := fin (some (.exit id)) W3 hk3
      exact ⟨_, _, hr, .inr ⟨rfl, .exit id, ⟨(hIx _).put _ hi3 (by omega) hl3, by rw [hsz]; exact hs3⟩, hb4⟩⟩
    | goto t =>
      obtain ⟨hk3, hi3⟩ := hp
      obtain ⟨hr, hl3, hs3, hb4⟩ := fin (some (.goto t)) W3 hk3
      exact ⟨_, _, hr, .inr ⟨rfl, .goto t, ⟨(hIx _).put _ hi3 (by omega) hl3, by rw [hsz]; exact hs3⟩, hb4⟩⟩
    | panic ch => exact hp.elim
    | outgrown => exact hp.elim
  · rintro e W2 ⟨⟨v, rfl⟩, (⟨xs, hS, ⟨hi, _⟩, hb⟩ | ⟨pre, hSp, c, ⟨hi, _⟩, hb⟩)⟩
    · have hr := run_endLoop (P := P) hb.1 (by rw [hrec]; simp [loopRec])
      rw [hrec] at hr
      exact ⟨none, _, hr, hdone _ xs _ (Nat.le_refl _) hS (hI.put _ hi (by omega) hb.1) ((World.putObj_heap_other (by omega)).trans hb.2)⟩
    · have hr := run_endLoop (P := P) hb.1 (by rw [hrec]; simp [loopRec])
      rw [hrec] at hr
      exact ⟨some c, _, hr, hstop _ c pre _ (Nat.le_refl _) hSp ((hIx c).put _ hi (by omega) hb.1) ((World.putObj_heap_other (by omega)).trans hb.2)⟩
end
end Go.Proofs.YteclpoooggcdoaaGreatDoor
/- The law on a range over a function once more: what a loop's own record may turn is said of records alone. Nothing of the program stands here. -/
namespace Go.Proofs.YteclpoooggcdoaaGreatDoor
open Go Go.RowKit
/-- A step that leaves what lay below n, and each block but those of the type t. -/
def StepT (t : TypeId) (n : Nat) (X Y : World) : Prop := Below n X Y ∧ ∀ (k : Nat) (o : Obj), X.heap[k]? = some o → (∀ c, o ≠ .cells c t (0, 0)) → Y.heap[k]? = some o
/-- I abides such steps. -/
def AbT {β : Type} (t : TypeId) (B : Nat) (I : β → World → Prop) : Prop := ∀ s X Y, I s X → StepT t B X Y → I s Y
/-- AN ITERATOR's WORD, to loops that speak of blocks of other types, wherever they lie. -/
def SeqStopsT {α : Type} (t : TypeId) (F : Fence) (n : Nat) (P : Program) (g : Nat) (lb : Array Value) (encs : α → Array Value) (Kp : World → World → Prop) (S Sp : List α → Prop) (N : Nat) (w : World) : Prop :=
  ∀ (l : Nat) (J Jx : List α → World → Prop) (W : World), Below w.heap.size w W → AbT t W.heap.size J → AbT t W.heap.size Jx →
    (∀ pre x W1, J pre W1 → pre.length < N → W.heap.size ≤ W1.heap.size → YieldAt F (n - 1) P l (encs x) W1 fun e W' =>
      (e = .returned (.bool true) ∧ J (pre ++ [x]) W' ∧ Kp W1 W') ∨ (e = .returned (.bool false) ∧ Jx (pre ++ [x]) W')) →
    J [] W →
    CallsIn F n P g (#[.func (.yield l) #[] #[]] ++ lb) W fun e W' => (∃ v, e = .returned v) ∧ ((∃ xs, S xs ∧ J xs W') ∨ (∃ pre, Sp pre ∧ Jx pre W'))

section
variable {F : Fence} {n : Nat} {P : Program} {w : World}
theorem wpIn_rangeFunc_ownC {α : Type} {t : TypeId} {g : Operand} {ps : Array Tmp} {assign body : Code} {Q : Exit → Act → World → Prop} {a : Act} {w : World}
    (hro : F.round = none) (h1 : 1 ≤ n) {gf : Nat} {lb : Array Value} (hg : a.eval g = .func (.func gf) #[] lb) (hFg : F.fn gf) (eg : ∀ args w, (callFunc gf args).run P w = .ok (.enter gf args) w)
    {encs : α → Array Value} {Kp : World → World → Prop} {S Sp : List α → Prop} {N : Nat} {w0 : World} (hseq : SeqStopsT t F (n - 1) P gf lb encs Kp S Sp N w0)
    (hKt : ∀ {A B C : World}, Kp A B → Kp B C → Kp A C) (hKb : ∀ (W : World) (l : Nat) (r r' : Loop), w.heap.size ≤ l → W.heap[l]? = some (.loop r) → Kp W (W.putObj l (.loop r'))) (hb0 : Below w0.heap.size w0 w) (hps : ∀ x, (encs x).size = ps.size)
    (I : List α → World → Prop) (Ix : Code → List α → World → Prop) (hI : AbT t w.heap.size I) (hIx : ∀ c, AbT t w.heap.size (Ix c))
    (hIp : ∀ (s : List α) (W : World) (l : Nat) (r r' : Loop), I s W → w.heap.size ≤ l → W.heap[l]? = some (.loop r) → I s (W.putObj l (.loop r')))
    (hIxp : ∀ (c : Code) (s : List α) (W : World) (l : Nat) (r r' : Loop), Ix c s W → w.heap.size ≤ l → W.heap[l]? = some (.loop r) → Ix c s (W.putObj l (.loop r'))) (h0 : I [] w) (Ax : α → Act → World → Prop) (hAx : ∀ x a', OwnFrom w.heap.size (fun (_ : Unit) W => Ax x a' W))
    (hassign : ∀ (l : Nat) (pre : List α) (x : α) (W : World) (K : Act → World → Prop), I pre W → w.heap.size ≤ W.heap.size → (∀ a' W', KeepsFrom w.heap.size W W' → Kp W W' → I pre W' → Ax x a' W' → K a' W') →
      assign.wpIn (F.inRound l) (n - 1 - 1) P (Exit.then K (fun _ _ _ => False)) { tmps := (ps.zip (encs x)).foldl (fun t (p, v) => t.setIfInBounds p v) a.tmps, defers := [] } W)
    (hbody : ∀ (l : Nat) (pre : List α) (x : α) (a' : Act) (W : World), w.heap.size ≤ l → (∃ r, W.heap[l]? = some (.loop r)) → I pre W → Ax x a' W → pre.length < N → body.wpIn (F.inRound l) (n - 1 - 1) P (ownPostG w.heap.size Kp I Ix (pre ++ [x]) W) a' W)
    (hdone : ∀ (D : Nat) (xs : List α) (W : World), w.heap.size ≤ D → S xs → I xs W → W.heap[D]? = some (.deferred (some [])) → Q .normal { a with defers := { target := .collected D, args := #[] } :: a.defers } W)
    (hstop : ∀ (D : Nat) (c : Code) (pre : List α) (W : World), w.heap.size ≤ D → Sp pre → Ix c pre W → W.heap[D]? = some (.deferred (some [])) → c.wpIn F n P Q { a with defers := { target := .collected D, args := #[] } :: a.defers } W) :
    (Code.rangeFunc g ps assign body).wpIn F n P Q a w := by
  refine wpIn_rangeFunc fun fn hfn => ?_
  rw [hro]
  obtain ⟨B, hB⟩ : ∃ B, B = w.heap.size := ⟨_, rfl⟩
  rw [← hB] at hI hIx hIp hIxp hAx hassign hbody hdone hstop hKb
  obtain ⟨rec, hrec⟩ : ∃ rec : LoopState → Option Code → Loop, rec = loopRec fn a.tmps ps assign body B := ⟨_, rfl⟩
  obtain ⟨W1, hW1⟩ : ∃ W1, W1 = (w.alloc (.deferred (some []))).alloc (.loop (rec .ready none)) := ⟨_, rfl⟩
  have hs1 : W1.heap.size = B + 2 := by rw [hW1, hB]; simp
  have hbB : Below B w W1 := by rw [hW1, hB]; exact ((Below.refl _ w).alloc (Nat.le_refl _) _).alloc (by simp) _
  have hbk : Books W1 B (rec .ready none) := by
    rw [hW1, hB]
    refine ⟨?_, (Below.heap_alloc _ _ _ (by simp)).trans (World.alloc_heap_new w _)⟩
    have := World.alloc_heap_new (w.alloc (.deferred (some []))) (.loop (rec .ready none))
    rwa [World.size_alloc] at this
  refine ⟨B + 1, [{ target := .collected B, args := #[] }], W1, { target := .fn (.func gf) lb, args := #[.func (.yield (B + 1)) #[] #[]] }, W1, gf, #[.func (.yield (B + 1)) #[] #[]] ++ lb, W1, ?_, ?_, ?_, ?_, fun _ => h1, ?_⟩
  · rw [hW1, hrec, hB]; exact run_enterLoop_outer _ _ _ _ _
  · simp only [resolve, hg]
    simp [go_sem]
  · intro f' hf'; simp [Target.leads] at hf'; subst hf'; exact hFg
  · simp [invoke, go_sem, eg]
  refine (hseq (B + 1) (fun pre W => (I pre W ∧ B + 2 ≤ W.heap.size) ∧ Books W B (rec .ready none)) (fun pre W => ∃ c, (Ix c pre W ∧ B + 2 ≤ W.heap.size) ∧ Books W B (rec .done (some c))) W1 (hb0.trans (hbB.mono (by rw [hB]; exact hb0.size))) ?_ ?_ ?_ ⟨⟨hI _ _ _ h0 ⟨hbB, fun k o ho _ => by rw [hW1]; exact ((Below.heap_alloc _ _ k (by rw [World.size_alloc]; have := (Array.getElem?_eq_some_iff.1 ho).1; omega)).trans (Below.heap_alloc w _ k (Array.getElem?_eq_some_iff.1 ho).1)).trans ho⟩, by omega⟩, hbk⟩).mono ?_
  · rintro s X Y ⟨⟨hi, hs⟩, hb⟩ hXY
    exact ⟨⟨hI _ _ _ hi ⟨hXY.1.mono (by omega), hXY.2⟩, Nat.le_trans hs hXY.1.size⟩, hb.below (hXY.1.mono (by omega))⟩
  · rintro s X Y ⟨c, ⟨hi, hs⟩, hb⟩ hXY
    exact ⟨c, ⟨hIx c _ _ _ hi ⟨hXY.1.mono (by omega), hXY.2⟩, Nat.le_trans hs hXY.1.size⟩, hb.below (hXY.1.mono (by omega))⟩
  · rintro pre x W ⟨⟨hi, hsW⟩, hbk⟩ hlen _
    have hy := run_yield (P := P) (args := encs x) hbk.1 (by rw [hrec]; exact hps x)
    rw [hrec] at hy
    refine ⟨fn, _, assign, body, hy, roundIn_of_wpIn hfn (hassign _ pre x W _ hi (by omega) ?_)⟩
    intro a' Wa hka hkpa hia hax
    have hba := hbk.keeps hka
    have hla := hba.1
    refine ⟨_, run_beginRound hla (by rw [hrec]; rfl), ?_⟩
    have hb2 := hba.put { rec .ready none with state := .busy }
    have hw2 : Kp Wa (Wa.putObj (B + 1) (.loop { rec .ready none with state := .busy })) := hKb _ _ _ _ (by omega) hla
    refine wpIn_mono (hbody _ pre x a' _ (by omega) ⟨_, hb2.1⟩ (hIp _ _ _ _ _ hia (by omega) hla) ((hAx x a').putObj (s := ()) _ hax (by omega) hla rfl) hlen) ?_
    have fin : ∀ (jump : Option Code) (W3 : World), KeepsFrom B (Wa.putObj (B + 1) (.loop { rec .ready none with state := .busy })) W3 →
        (Instr.endRound (B + 1) jump).run P W3 = .ok (.bool jump.isNone) (W3.putObj (B + 1) (.loop (rec (if jump.isNone then .ready else .done) jump))) ∧
        W3.heap[B + 1]? = some (.loop { rec .ready none with state := .busy }) ∧ B + 2 ≤ W3.heap.size ∧ Books (W3.putObj (B + 1) (.loop (rec (if jump.isNone then .ready else .done) jump))) B (rec (if jump.isNone then .ready else .done) jump) := fun jump W3 hk3 => by
      have hb3 := hb2.keeps hk3
      have hr := run_endRound (P := P) jump hb3.1
      have hlt := (Array.getElem?_eq_some_iff.1 hb3.1).1
      refine ⟨?_, hb3.1, by omega, hb3.put _⟩
      rw [hrec] at hr ⊢
      exact hr
    have hsz : ∀ (W3 : World) (o : Obj), (W3.putObj (B + 1) o).heap.size = W3.heap.size := fun W3 o => by simp [World.putObj]
    rintro e a3 W3 hp
    cases e with
    | normal =>
      obtain ⟨hk3, hkp3, hi3⟩ := hp
      obtain ⟨hr, hl3, hs3, hb4⟩ := fin none W3 hk3
      exact ⟨_, _, hr, .inl ⟨rfl, ⟨⟨hIp _ _ _ _ _ hi3 (by omega) hl3, by rw [hsz]; exact hs3⟩, hb4⟩, hKt hkpa (hKt (hKt hw2 hkp3) (hKb _ _ _ _ (by omega) hl3))⟩⟩
    | ret =>
      obtain ⟨hk3, hi3⟩ := hp
      obtain ⟨hr, hl3, hs3, hb4⟩ := fin (some .ret) W3 hk3
      exact ⟨_, _, hr, .inr ⟨rfl, .ret, ⟨hIxp _ _ _ _ _ _ hi3 (by omega) hl3, by rw [hsz]; exact hs3⟩, hb4⟩⟩
    | exit id =>
      obtain ⟨hk3, hi3⟩ := hp
      obtain ⟨hr, hl3, hs3, hb4⟩ := fin (some (.exit id)) W3 hk3
      exact ⟨_, _, hr, .inr ⟨rfl, .exit id, ⟨hIxp _ _ _ _ _ _ hi3 (by omega) hl3, by rw [hsz]; exact hs3⟩, hb4⟩⟩
    | goto t =>
      obtain ⟨hk3, hi3⟩ := hp
      obtain ⟨hr, hl3, hs3, hb4⟩ := fin (some (.goto t)) W3 hk3
      exact ⟨_, _, hr, .inr ⟨rfl, .goto t, ⟨hIxp _ _ _ _ _ _ hi3 (by omega) hl3, by rw [hsz]; exact hs3⟩, hb4⟩⟩
    | panic ch => exact hp.elim
    | outgrown => exact hp.elim
  · rintro e W2 ⟨⟨v, rfl⟩, (⟨xs, hS, ⟨hi, _⟩, hb⟩ | ⟨pre, hSp, c, ⟨hi, _⟩, hb⟩)⟩
    · have hr := run_endLoop (P := P) hb.1 (by rw [hrec]; simp [loopRec])
      rw [hrec] at hr
      exact ⟨none, _, hr, hdone _ xs _ (Nat.le_refl _) hS (hIp _ _ _ _ _ hi (by omega) hb.1) ((World.putObj_heap_other (by omega)).trans hb.2)⟩
    · have hr := run_endLoop (P := P) hb.1 (by rw [hrec]; simp [loopRec])
      rw [hrec] at hr
      exact ⟨some c, _, hr, hstop _ c pre _ (Nat.le_refl _) hSp (hIxp _ _ _ _ _ _ hi (by omega) hb.1) ((World.putObj_heap_other (by omega)).trans hb.2)⟩
end

/-- What a round of a loop keeps: what lay below n₀; and blocks of a type t, strings' boxes, maps. -/
def Stable (t ts : TypeId) (o : Obj) : Prop := (∃ c, o = .cells c t (0, 0)) ∨ (∃ c, o = .cells c ts (0, 0)) ∨ ∃ es c, o = .map es c
structure KeepT (t ts : TypeId) (n₀ : Nat) (W W' : World) : Prop where
  below : Below n₀ W W'
  stab : ∀ (k : Nat) (o : Obj), W.heap[k]? = some o → Stable t ts o → W'.heap[k]? = some o
theorem KeepT.trans {t ts : TypeId} {n₀ : Nat} {A B C : World} (h : KeepT t ts n₀ A B) (g : KeepT t ts n₀ B C) : KeepT t ts n₀ A C :=
  ⟨h.below.trans g.below, fun k o ho hs => g.stab k o (h.stab k o ho hs) hs⟩
theorem keepT_b {t ts : TypeId} {n₀ : Nat} {w : World} (hn : n₀ ≤ w.heap.size) (W : World) (l : Nat) (r r' : Loop) (hl : w.heap.size ≤ l) (h : W.heap[l]? = some (.loop r)) : KeepT t ts n₀ W (W.putObj l (.loop r')) := by
  have hlt := (Array.getElem?_eq_some_iff.1 h).1
  refine ⟨(Below.refl n₀ W).grown (grownBy_putObj' W l _) (by omega) (fun k e => by cases e; omega), fun k o ho hs => ?_⟩
  have hne : k ≠ l := fun e => by
    subst e
    rw [h] at ho
    cases ho
    rcases hs with ⟨c, e⟩ | ⟨c, e⟩ | ⟨es, c, e⟩ <;> cases e
  exact (World.putObj_heap_other hne).trans ho
end Go.Proofs.YteclpoooggcdoaaGreatDoor
/- A region that draws its order, each of whose operations yields one value whatever the order: all orders come to one end. Nothing of the program stands here. -/
namespace Go.Proofs.YteclpoooggcdoaaGreatDoor
open Go

/-- The frame when just the listed operations are over: each has put its value; all else is as in a0. -/
structure Shape (ops : Array Oper) (a0 : Act) (val : Nat → Value) (listed : Array Bool) (a : Act) : Prop where
  size : a.tmps.size = a0.tmps.size
  defers : a.defers = a0.defers
  base : ∀ (t : Tmp), (∀ (j : Nat) (o : Oper), ops[j]? = some o → o.dst ≠ some t) → a.tmps[t]? = a0.tmps[t]?
  set : ∀ (j : Nat) (o : Oper) (d : Tmp), ops[j]? = some o → o.dst = some d → d < a0.tmps.size → listed.getD j false = true → a.tmps[d]? = some (val j)

/-- What must come ahead of a listed operation is listed. -/
def Closed (md : Region.Mode) (ops : Array Oper) (listed : Array Bool) : Prop :=
  ∀ (j : Nat) (o : Oper), ops[j]? = some o → listed.getD j false = true → ∀ e ∈ o.after, Region.binds md e = true → listed.getD e.on false = true

theorem Shape.tmpBase {ops : Array Oper} {a0 a : Act} {val : Nat → Value} {listed : Array Bool} (h : Shape ops a0 val listed a) (t : Tmp) (ht : ops.all (fun o => o.dst != some t) = true) : a.tmps[t]? = a0.tmps[t]? :=
  h.base t (fun j o hj e => by
    rw [Array.all_eq_true'] at ht
    have h1 := ht o (Array.mem_of_getElem? hj)
    rw [e] at h1
    simp at h1)
theorem Shape.tmpSet {ops : Array Oper} {a0 a : Act} {val : Nat → Value} {listed : Array Bool} (h : Shape ops a0 val listed a) (j : Nat) (o : Oper) (d : Tmp) (ho : ops[j]? = some o) (hd : o.dst = some d) (hlt : d < a0.tmps.size) (hl : listed.getD j false = true) : a.tmps[d]? = some (val j) :=
  h.set j o d ho hd hlt hl

theorem getD_set (l : Array Bool) (i j : Nat) (d : Bool) (hi : i < l.size) : (l.setIfInBounds i true).getD j d = if i = j then true else l.getD j d := by
  simp only [Array.getD_eq_getD_getElem?, Array.getElem?_setIfInBounds]
  by_cases h : i = j
  · subst h; simp [hi]
  · simp [h]

/-- How many are not listed yet. -/
def left (ops : Array Oper) (listed : Array Bool) : Nat := ((List.range ops.size).filter fun i => !listed.getD i true).length
section
variable {F : Fence} {n : Nat} {P : Program} {ops : Array Oper} {Q : Exit → Act → World → Prop} {md : Region.Mode}

theorem Shape.put {a0 a : Act} {val : Nat → Value} {listed : Array Bool} {i : Nat} {o : Oper} (h : Shape ops a0 val listed a) (ho : ops[i]? = some o) (hsz : i < listed.size)
    (hdst : ∀ (i j : Nat) (o o' : Oper) (d : Tmp), ops[i]? = some o → ops[j]? = some o' → o.dst = some d → o'.dst = some d → i = j) : Shape ops a0 val (listed.setIfInBounds i true) (a.put o.dst (val i)) := by
  cases hd : o.dst with
  | none =>
    refine ⟨h.size, h.defers, h.base, fun j o' d hj hd' hlt hl => ?_⟩
    rw [getD_set _ _ _ _ hsz] at hl
    by_cases hij : i = j
    · subst hij; rw [ho] at hj; cases hj; rw [hd] at hd'; cases hd'
    · rw [if_neg hij] at hl; exact h.set j o' d hj hd' hlt hl
  | some d0 =>
    refine ⟨by simp [Act.put, h.size], h.defers, fun t ht => ?_, fun j o' d hj hd' hlt hl => ?_⟩
    · have hne : d0 ≠ t := fun e => ht i o ho (by rw [hd, e])
      simp only [Act.put]
      rw [Array.getElem?_setIfInBounds_ne hne]
      exact h.base t ht
    · rw [getD_set _ _ _ _ hsz] at hl
      simp only [Act.put]
      by_cases hij : i = j
      · subst hij
        rw [ho] at hj; cases hj
        rw [hd] at hd'; cases hd'
        rw [Array.getElem?_setIfInBounds_self_of_lt (by rw [h.size]; exact hlt)]
      · rw [if_neg hij] at hl
        have hne : d0 ≠ d := fun e => hij (hdst i j o o' d ho hj (by rw [hd, e]) hd')
        rw [Array.getElem?_setIfInBounds_ne hne]
        exact h.set j o' d hj hd' hlt hl

/-- WHATEVER THE ORDER, ONE END: at any point each operation that may come up runs to its own value, from the point's world to the next point's. -/
theorem wpAnyIn_det (a0 : Act) (val : Nat → Value) (wd : Array Bool → World)
    (hg : ∀ (i : Nat) (o : Oper), ops[i]? = some o → o.guard = none)
    (hord : ∀ (i : Nat) (o : Oper) (e : Edge), ops[i]? = some o → e ∈ o.after → Region.binds md e = true → e.on < i)
    (hdst : ∀ (i j : Nat) (o o' : Oper) (d : Tmp), ops[i]? = some o → ops[j]? = some o' → o.dst = some d → o'.dst = some d → i = j)
    (hstep : ∀ (i : Nat) (o : Oper) (listed : Array Bool) (a : Act), ops[i]? = some o → listed.size = ops.size → listed.getD i false = false → (∀ e ∈ o.after, Region.binds md e = true → listed.getD e.on false = true) → Closed md ops listed → Shape ops a0 val listed a →
      (∀ f, o.about P (wd listed) a.eval = some f → F.fn f) ∧ ∃ r, (o.semAt F.round a.eval).run P (wd listed) = .ok r (wd (listed.setIfInBounds i true)) ∧ (r = .value (val i) ∨ (r = .skip ∧ val i = undef)))
    (hend : ∀ (listed : Array Bool) (a : Act), (∀ i, i < ops.size → listed.getD i false = true) → Shape ops a0 val listed a → Q .normal a (wd listed)) :
    ∀ (fuel : Nat) (listed : Array Bool) (a : Act), listed.size = ops.size → left ops listed = fuel → Closed md ops listed → Shape ops a0 val listed a → wpAnyIn F n P md ops Q fuel listed a (wd listed) := by
  have hfin : ∀ (listed : Array Bool), listed.size = ops.size → Region.ready md ops listed = [] → ∀ i, i < ops.size → listed.getD i false = true := by
    intro listed hsz hr
    have hall : ∀ k i, i < k → i < ops.size → listed.getD i false = true := by
      intro k
      induction k with
      | zero => intro i hi; omega
      | succ k ih =>
        intro i hi his
        rcases Nat.lt_or_ge i k with hlt | hge
        · exact ih i hlt his
        · obtain rfl : i = k := by omega
          apply Classical.byContradiction
          intro hn
          have hmem : i ∈ Region.ready md ops listed := by
            unfold Region.ready
            rw [List.mem_filter]
            refine ⟨List.mem_range.2 his, ?_⟩
            have hx : listed.getD i true = false := by
              simp only [Array.getD_eq_getD_getElem?] at hn ⊢
              rw [Array.getElem?_eq_getElem (by omega)] at hn ⊢
              simpa using hn
            rw [hx, Array.getElem?_eq_getElem his]
            simp only [Bool.not_false, Bool.true_and, Option.map_some, Option.getD_some, Array.all_eq_true]
            intro e he
            cases hb : Region.binds md ops[i].after[e] with
            | false => simp
            | true =>
              have h1 := hord i ops[i] _ (Array.getElem?_eq_getElem his) (Array.getElem_mem he) hb
              rw [ih _ h1 (by omega)]
              simp
          rw [hr] at hmem
          cases hmem
    exact fun i hi => hall (i + 1) i (by omega) hi
  intro fuel
  induction fuel with
  | zero =>
    intro listed a hsz hl hcl hS
    have hall : ∀ i, i < ops.size → listed.getD i true = true := by
      intro i hi
      have := List.eq_nil_of_length_eq_zero hl
      rw [List.filter_eq_nil_iff] at this
      simpa using this i (List.mem_range.2 hi)
    have hr : Region.ready md ops listed = [] := by
      unfold Region.ready
      rw [List.filter_eq_nil_iff]
      intro i hi
      rw [hall i (List.mem_range.1 hi)]
      simp
    exact ⟨hr, hend listed a (hfin listed hsz hr) hS⟩
  | succ fuel ih =>
    intro listed a hsz hl hcl hS
    refine ⟨fun hr => hend listed a (hfin listed hsz hr) hS, fun i hi => ?_⟩
    unfold Region.ready at hi
    rw [List.mem_filter, List.mem_range] at hi
    obtain ⟨his, hcond⟩ := hi
    rw [Array.getElem?_eq_getElem his] at hcond
    simp only [Option.map_some, Option.getD_some, Bool.and_eq_true, Bool.not_eq_true'] at hcond
    obtain ⟨hu, haf⟩ := hcond
    have hu' : listed.getD i false = false := by
      simp only [Array.getD_eq_getD_getElem?] at hu ⊢
      rw [Array.getElem?_eq_getElem (by omega)] at hu ⊢
      simpa using hu
    have ho : ops[i]? = some ops[i] := Array.getElem?_eq_getElem his
    obtain ⟨hab, r, hrun, hr⟩ := hstep i ops[i] listed a ho hsz hu' (fun e he hb => by
      rw [Array.all_eq_true'] at haf
      have := haf e he
      rw [hb] at this
      simpa using this) hcl hS
    have hcl' : Closed md ops (listed.setIfInBounds i true) := by
      intro j o hj hl' e he hb
      rw [getD_set _ _ _ _ (by omega)] at hl' ⊢
      by_cases hie : i = e.on
      · rw [if_pos hie]
      · rw [if_neg hie]
        by_cases hij : i = j
        · subst hij
          rw [ho] at hj; cases hj
          rw [Array.all_eq_true'] at haf
          have := haf e he
          rw [hb] at this
          simpa using this
        · rw [if_neg hij] at hl'
          exact hcl j o hj hl' e he hb
    have hnext : wpAnyIn F n P md ops Q fuel (listed.setIfInBounds i true) (a.put ops[i].dst (val i)) (wd (listed.setIfInBounds i true)) := by
      refine ih _ _ (by simp [hsz]) ?_ hcl' (hS.put ho (by omega) hdst)
      have hlt : left ops (listed.setIfInBounds i true) + 1 = left ops listed := by
        unfold left
        have key : ∀ (l : List Nat), l.Nodup → i ∈ l → ((l.filter fun j => !(listed.setIfInBounds i true).getD j true).length + 1 = (l.filter fun j => !listed.getD j true).length) ∧ True := by
          intro l hn hm
          induction l with
          | nil => cases hm
          | cons y l ihl =>
            have hno : ∀ (l' : List Nat), i ∉ l' → (l'.filter fun j => !(listed.setIfInBounds i true).getD j true) = (l'.filter fun j => !listed.getD j true) := by
              intro l' hni
              apply List.filter_congr
              intro j hj
              have hne : i ≠ j := fun e => hni (by rw [e]; exact hj)
              rw [getD_set _ _ _ _ (by omega), if_neg hne]
            rcases List.mem_cons.1 hm with rfl | hm'
            · have hni : i ∉ l := (List.nodup_cons.1 hn).1
              refine ⟨?_, trivial⟩
              rw [List.filter_cons, List.filter_cons, hno l hni, getD_set _ _ _ _ (by omega), hu]
              simp
            · have hyi : i ≠ y := fun e => (List.nodup_cons.1 hn).1 (e ▸ hm')
              have h3 := (ihl (List.nodup_cons.1 hn).2 hm').1
              refine ⟨?_, trivial⟩
              rw [List.filter_cons, List.filter_cons, getD_set _ _ _ _ (by omega), if_neg hyi]
              by_cases hy : listed.getD y true = true
              · simp [hy]; simpa using h3
              · simp [hy]; simpa using h3
        exact (key _ List.nodup_range (List.mem_range.2 his)).1
      omega
    unfold wpOpIn
    rw [ho]
    have hw : Region.wanted ops[i] (yielded ops a.tmps) = true := by simp [Region.wanted, hg i _ ho]
    simp only [hw, if_true]
    refine ⟨hab, ?_⟩
    rw [hrun]
    rcases hr with rfl | ⟨rfl, hv⟩
    · exact hnext
    · rw [hv] at hnext; exact hnext

/-- The frame behind the region. -/
def finAct (ops : Array Oper) (a0 : Act) (val : Nat → Value) : Nat → Act
  | 0 => a0
  | k + 1 => match ops[k]? with
    | some o => (finAct ops a0 val k).put o.dst (val k)
    | none => finAct ops a0 val k
theorem Shape.unique {a0 a b : Act} {val : Nat → Value} {l l' : Array Bool} (h : Shape ops a0 val l a) (h' : Shape ops a0 val l' b) (hl : ∀ i, i < ops.size → l.getD i false = true) (hl' : ∀ i, i < ops.size → l'.getD i false = true) : a = b := by
  obtain ⟨ta, da⟩ := a
  obtain ⟨tb, db⟩ := b
  have e1 : ta = tb := by
    apply Array.ext_getElem?
    intro t
    by_cases hx : ∃ (j : Nat) (o : Oper), ops[j]? = some o ∧ o.dst = some t
    · obtain ⟨j, o, ho, hd⟩ := hx
      have hj : j < ops.size := (Array.getElem?_eq_some_iff.1 ho).1
      by_cases ht : t < a0.tmps.size
      · exact (h.set j o t ho hd ht (hl j hj)).trans (h'.set j o t ho hd ht (hl' j hj)).symm
      · have s1 := h.size
        have s2 := h'.size
        simp only at s1 s2
        rw [Array.getElem?_eq_none (by omega), Array.getElem?_eq_none (by omega)]
    · have hn : ∀ (j : Nat) (o : Oper), ops[j]? = some o → o.dst ≠ some t := fun j o ho hd => hx ⟨j, o, ho, hd⟩
      exact (h.base t hn).trans (h'.base t hn).symm
  have e2 : da = db := h.defers.trans h'.defers.symm
  rw [e1, e2]
theorem Shape.final {a0 a : Act} {val : Nat → Value} {l : Array Bool} (h : Shape ops a0 val l a) (hl : ∀ i, i < ops.size → l.getD i false = true)
    (hdst : ∀ (i j : Nat) (o o' : Oper) (d : Tmp), ops[i]? = some o → ops[j]? = some o' → o.dst = some d → o'.dst = some d → i = j) : a = finAct ops a0 val ops.size := by
  have key : ∀ k, k ≤ ops.size → ∃ l' : Array Bool, l'.size = ops.size ∧ (∀ i, i < k → l'.getD i false = true) ∧ (∀ i, k ≤ i → l'.getD i false = false) ∧ Shape ops a0 val l' (finAct ops a0 val k) := by
    intro k
    induction k with
    | zero =>
      intro _
      have hz : ∀ j, (Array.replicate ops.size false).getD j false = false := by
        intro j
        simp only [Array.getD_eq_getD_getElem?, Array.getElem?_replicate]
        split <;> rfl
      refine ⟨Array.replicate ops.size false, by simp, fun i hi => by omega, fun i _ => hz i, ⟨rfl, rfl, fun _ _ => rfl, fun j o d hj _ _ hl => ?_⟩⟩
      rw [hz] at hl; cases hl
    | succ k ih =>
      intro hk
      obtain ⟨l', h1, h2, h3, h4⟩ := ih (by omega)
      have ho : ops[k]? = some ops[k] := Array.getElem?_eq_getElem (by omega)
      refine ⟨l'.setIfInBounds k true, by simp [h1], fun i hi => ?_, fun i hi => ?_, ?_⟩
      · rw [getD_set _ _ _ _ (by omega)]
        split
        · rfl
        · exact h2 i (by omega)
      · rw [getD_set _ _ _ _ (by omega), if_neg (by omega)]
        exact h3 i (by omega)
      · simp only [finAct, ho]
        exact h4.put ho (by omega) hdst
  obtain ⟨l', _, h2, _, h4⟩ := key ops.size (Nat.le_refl _)
  exact h.unique h4 hl h2

/-- No guard; each comes behind earlier ones alone; no two write one slot. -/
def plainOps (ops : Array Oper) : Bool :=
  ops.all (fun o => o.guard.isNone) &&
  (List.range ops.size).all (fun i => match ops[i]? with | some o => o.after.all (fun e => !Region.binds .any e || decide (e.on < i)) | none => true) &&
  (List.range ops.size).all (fun i => (List.range ops.size).all fun j => i == j || match ops[i]?, ops[j]? with | some o, some o' => (match o.dst, o'.dst with | some d, some d' => d != d' | _, _ => true) | _, _ => true)
theorem plainOps_spec (h : plainOps ops = true) :
    (∀ (i : Nat) (o : Oper), ops[i]? = some o → o.guard = none) ∧ (∀ (i : Nat) (o : Oper) (e : Edge), ops[i]? = some o → e ∈ o.after → Region.binds .any e = true → e.on < i) ∧
    (∀ (i j : Nat) (o o' : Oper) (d : Tmp), ops[i]? = some o → ops[j]? = some o' → o.dst = some d → o'.dst = some d → i = j) := by
  unfold plainOps at h
  rw [Bool.and_eq_true, Bool.and_eq_true] at h
  obtain ⟨⟨h1, h2⟩, h3⟩ := h
  rw [List.all_eq_true] at h2 h3
  refine ⟨fun i o ho => ?_, fun i o e ho he hb => ?_, fun i j o o' d ho ho' hd hd' => ?_⟩
  · rw [Array.all_eq_true'] at h1
    have := h1 o (Array.mem_of_getElem? ho)
    simpa using this
  · have := h2 i (List.mem_range.2 (Array.getElem?_eq_some_iff.1 ho).1)
    rw [ho] at this
    simp only [Array.all_eq_true'] at this
    simpa [hb] using this e he
  · have h4 := h3 i (List.mem_range.2 (Array.getElem?_eq_some_iff.1 ho).1)
    rw [List.all_eq_true] at h4
    have h5 := h4 j (List.mem_range.2 (Array.getElem?_eq_some_iff.1 ho').1)
    rw [ho, ho'] at h5
    simp only [hd, hd'] at h5
    simpa using h5

/-- The region's law. -/
theorem wpIn_region_det {id : Nat} {a : Act} {w : World} (hm : P.follows .mixedOrders = true) (hp : plainOps ops = true) (val : Nat → Value) (wd : Array Bool → World) (hw : wd (Array.replicate ops.size false) = w.drew)
    (hstep : ∀ (i : Nat) (o : Oper) (listed : Array Bool) (a' : Act), ops[i]? = some o → listed.size = ops.size → listed.getD i false = false → (∀ e ∈ o.after, Region.binds .any e = true → listed.getD e.on false = true) → Closed .any ops listed → Shape ops a val listed a' →
      (∀ f, o.about P (wd listed) a'.eval = some f → F.fn f) ∧ ∃ r, (o.semAt F.round a'.eval).run P (wd listed) = .ok r (wd (listed.setIfInBounds i true)) ∧ (r = .value (val i) ∨ (r = .skip ∧ val i = undef)))
    (hend : ∀ (listed : Array Bool), (∀ i, i < ops.size → listed.getD i false = true) → Q .normal (finAct ops a val ops.size) (wd listed)) : (Code.region id ops true).wpIn F n P Q a w := by
  refine wpIn_region_any hm ?_
  have hw' : wd (Array.replicate ops.size false) = { w with drawn := w.drawn + 1 } := hw
  rw [← hw']
  have hall : ∀ j d, (Array.replicate ops.size false).getD j d = if j < ops.size then false else d := by
    intro j d
    simp only [Array.getD_eq_getD_getElem?, Array.getElem?_replicate]
    split <;> rfl
  obtain ⟨hg, hord, hdst⟩ := plainOps_spec hp
  refine wpAnyIn_det a val wd hg hord hdst hstep (fun listed a' hl hS => by rw [hS.final hl hdst]; exact hend listed hl) ops.size _ a (by simp) ?_ (fun j o hj hl => by rw [hall] at hl; split at hl <;> cases hl) ⟨rfl, rfl, fun _ _ => rfl, fun j o d hj _ _ hl => ?_⟩
  · unfold left
    rw [List.filter_eq_self.2 (fun i hi => by rw [hall, if_pos (List.mem_range.1 hi)]; rfl), List.length_range]
  · rw [hall] at hl
    split at hl <;> cases hl
/-- The same, the frame behind it written out. -/
theorem wpIn_region_det_to {id : Nat} {a : Act} {w : World} (hm : P.follows .mixedOrders = true) (hp : plainOps ops = true) (val : Nat → Value) (b : Act) (hb : finAct ops a val ops.size = b) (wd : Array Bool → World) (hw : wd (Array.replicate ops.size false) = w.drew)
    (hstep : ∀ (i : Nat) (o : Oper) (listed : Array Bool) (a' : Act), ops[i]? = some o → listed.size = ops.size → listed.getD i false = false → (∀ e ∈ o.after, Region.binds .any e = true → listed.getD e.on false = true) → Closed .any ops listed → Shape ops a val listed a' →
      (∀ f, o.about P (wd listed) a'.eval = some f → F.fn f) ∧ ∃ r, (o.semAt F.round a'.eval).run P (wd listed) = .ok r (wd (listed.setIfInBounds i true)) ∧ (r = .value (val i) ∨ (r = .skip ∧ val i = undef)))
    (hend : ∀ (listed : Array Bool), (∀ i, i < ops.size → listed.getD i false = true) → Q .normal b (wd listed)) : (Code.region id ops true).wpIn F n P Q a w :=
  wpIn_region_det hm hp val wd hw hstep (fun listed hl => by rw [hb]; exact hend listed hl)
end
end Go.Proofs.YteclpoooggcdoaaGreatDoor
/- The law on a range over a function, to a body that knows which one comes next (by wip/gen/gr_dep.py's session: XLxRng once more). Nothing of the program stands here. XDet2 once more, in a namespace of its own, and with an operation among the first ones that lays new memory. Nothing of the program stands here. -/
/- The law on a range over a function, to a body that knows which one comes next (by wip/gen/gr_dep.py's session: XLxRng once more). Nothing of the program stands here. -/
namespace Go.Proofs.YteclpoooggcdoaaGreatDoor
open Go Go.RowKit
/-- AN ITERATOR's WORD, to loops that speak of blocks of other types, wherever they lie. -/
def SeqStopsO {α : Type} (t : TypeId) (F : Fence) (n : Nat) (P : Program) (g : Nat) (lb : Array Value) (encs : α → Array Value) (Kp : World → World → Prop) (S Sp : List α → Prop) (Nx : List α → α → Prop) (w : World) : Prop :=
  ∀ (l : Nat) (J Jx : List α → World → Prop) (W : World), Below w.heap.size w W → AbT t W.heap.size J → AbT t W.heap.size Jx →
    (∀ pre x W1, J pre W1 → Nx pre x → W.heap.size ≤ W1.heap.size → YieldAt F (n - 1) P l (encs x) W1 fun e W' =>
      (e = .returned (.bool true) ∧ J (pre ++ [x]) W' ∧ Kp W1 W') ∨ (e = .returned (.bool false) ∧ Jx (pre ++ [x]) W')) →
    J [] W →
    CallsIn F n P g (#[.func (.yield l) #[] #[]] ++ lb) W fun e W' => (∃ v, e = .returned v) ∧ ((∃ xs, S xs ∧ J xs W') ∨ (∃ pre, Sp pre ∧ Jx pre W'))

section
variable {F : Fence} {n : Nat} {P : Program} {w : World}
theorem wpIn_rangeFunc_ownO {α : Type} {t : TypeId} {g : Operand} {ps : Array Tmp} {assign body : Code} {Q : Exit → Act → World → Prop} {a : Act} {w : World}
    (hro : F.round = none) (h1 : 1 ≤ n) {gf : Nat} {lb : Array Value} (hg : a.eval g = .func (.func gf) #[] lb) (hFg : F.fn gf) (eg : ∀ args w, (callFunc gf args).run P w = .ok (.enter gf args) w)
    {encs : α → Array Value} {Kp : World → World → Prop} {S Sp : List α → Prop} {Nx : List α → α → Prop} {w0 : World} (hseq : SeqStopsO t F (n - 1) P gf lb encs Kp S Sp Nx w0)
    (hKt : ∀ {A B C : World}, Kp A B → Kp B C → Kp A C) (hKb : ∀ (W : World) (l : Nat) (r r' : Loop), w.heap.size ≤ l → W.heap[l]? = some (.loop r) → Kp W (W.putObj l (.loop r'))) (hb0 : Below w0.heap.size w0 w) (hps : ∀ x, (encs x).size = ps.size)
    (I : List α → World → Prop) (Ix : Code → List α → World → Prop) (hI : AbT t w.heap.size I) (hIx : ∀ c, AbT t w.heap.size (Ix c))
    (hIp : ∀ (s : List α) (W : World) (l : Nat) (r r' : Loop), I s W → w.heap.size ≤ l → W.heap[l]? = some (.loop r) → I s (W.putObj l (.loop r')))
    (hIxp : ∀ (c : Code) (s : List α) (W : World) (l : Nat) (r r' : Loop), Ix c s W → w.heap.size ≤ l → W.heap[l]? = some (.loop r) → Ix c s (W.putObj l (.loop r'))) (h0 : I [] w) (Ax : α → Act → World → Prop) (hAx : ∀ x a', OwnFrom w.heap.size (fun (_ : Unit) W => Ax x a' W))
    (hassign : ∀ (l : Nat) (pre : List α) (x : α) (W : World) (K : Act → World → Prop), I pre W → w.heap.size ≤ W.heap.size → (∀ a' W', KeepsFrom w.heap.size W W' → Kp W W' → I pre W' → Ax x a' W' → K a' W') →
      assign.wpIn (F.inRound l) (n - 1 - 1) P (Exit.then K (fun _ _ _ => False)) { tmps := (ps.zip (encs x)).foldl (fun t (p, v) => t.setIfInBounds p v) a.tmps, defers := [] } W)
    (hbody : ∀ (l : Nat) (pre : List α) (x : α) (a' : Act) (W : World), w.heap.size ≤ l → (∃ r, W.heap[l]? = some (.loop r)) → I pre W → Ax x a' W → Nx pre x → body.wpIn (F.inRound l) (n - 1 - 1) P (ownPostG w.heap.size Kp I Ix (pre ++ [x]) W) a' W)
    (hdone : ∀ (D : Nat) (xs : List α) (W : World), w.heap.size ≤ D → S xs → I xs W → W.heap[D]? = some (.deferred (some [])) → Q .normal { a with defers := { target := .collected D, args := #[] } :: a.defers } W)
    (hstop : ∀ (D : Nat) (c : Code) (pre : List α) (W : World), w.heap.size ≤ D → Sp pre → Ix c pre W → W.heap[D]? = some (.deferred (some [])) → c.wpIn F n P Q { a with defers := { target := .collected D, args := #[] } :: a.defers } W) :
    (Code.rangeFunc g ps assign body).wpIn F n P Q a w := by
  refine wpIn_rangeFunc fun fn hfn => ?_
  rw [hro]
  obtain ⟨B, hB⟩ : ∃ B, B = w.heap.size := ⟨_, rfl⟩
  rw [← hB] at hI hIx hIp hIxp hAx hassign hbody hdone hstop hKb
  obtain ⟨rec, hrec⟩ : ∃ rec : LoopState → Option Code → Loop, rec = loopRec fn a.tmps ps assign body B := ⟨_, rfl⟩
  obtain ⟨W1, hW1⟩ : ∃ W1, W1 = (w.alloc (.deferred (some []))).alloc (.loop (rec .ready none)) := ⟨_, rfl⟩
  have hs1 : W1.heap.size = B + 2 := by rw [hW1, hB]; simp
  have hbB : Below B w W1 := by rw [hW1, hB]; exact ((Below.refl _ w).alloc (Nat.le_refl _) _).alloc (by simp) _
  have hbk : Books W1 B (rec .ready none) := by
    rw [hW1, hB]
    refine ⟨?_, (Below.heap_alloc _ _ _ (by simp)).trans (World.alloc_heap_new w _)⟩
    have := World.alloc_heap_new (w.alloc (.deferred (some []))) (.loop (rec .ready none))
    rwa [World.size_alloc] at this
  refine ⟨B + 1, [{ target := .collected B, args := #[] }], W1, { target := .fn (.func gf) lb, args := #[.func (.yield (B + 1)) #[] #[]] }, W1, gf, #[.func (.yield (B + 1)) #[] #[]] ++ lb, W1, ?_, ?_, ?_, ?_, fun _ => h1, ?_⟩
  · rw [hW1, hrec, hB]; exact run_enterLoop_outer _ _ _ _ _
  · simp only [resolve, hg]
    simp [go_sem]
  · intro f' hf'; simp [Target.leads] at hf'; subst hf'; exact hFg
  · simp [invoke, go_sem, eg]
  refine (hseq (B + 1) (fun pre W => (I pre W ∧ B + 2 ≤ W.heap.size) ∧ Books W B (rec .ready none)) (fun pre W => ∃ c, (Ix c pre W ∧ B + 2 ≤ W.heap.size) ∧ Books W B (rec .done (some c))) W1 (hb0.trans (hbB.mono (by rw [hB]; exact hb0.size))) ?_ ?_ ?_ ⟨⟨hI _ _ _ h0 ⟨hbB, fun k o ho _ => by rw [hW1]; exact ((Below.heap_alloc _ _ k (by rw [World.size_alloc]; have := (Array.getElem?_eq_some_iff.1 ho).1; omega)).trans (Below.heap_alloc w _ k (Array.getElem?_eq_some_iff.1 ho).1)).trans ho⟩, by omega⟩, hbk⟩).mono ?_
  · rintro s X Y ⟨⟨hi, hs⟩, hb⟩ hXY
    exact ⟨⟨hI _ _ _ hi ⟨hXY.1.mono (by omega), hXY.2⟩, Nat.le_trans hs hXY.1.size⟩, hb.below (hXY.1.mono (by omega))⟩
  · rintro s X Y ⟨c, ⟨hi, hs⟩, hb⟩ hXY
    exact ⟨c, ⟨hIx c _ _ _ hi ⟨hXY.1.mono (by omega), hXY.2⟩, Nat.le_trans hs hXY.1.size⟩, hb.below (hXY.1.mono (by omega))⟩
  · rintro pre x W ⟨⟨hi, hsW⟩, hbk⟩ hlen _
    have hy := run_yield (P := P) (args := encs x) hbk.1 (by rw [hrec]; exact hps x)
    rw [hrec] at hy
    refine ⟨fn, _, assign, body, hy, roundIn_of_wpIn hfn (hassign _ pre x W _ hi (by omega) ?_)⟩
    intro a' Wa hka hkpa hia hax
    have hba := hbk.keeps hka
    have hla := hba.1
    refine ⟨_, run_beginRound hla (by rw [hrec]; rfl), ?_⟩
    have hb2 := hba.put { rec .ready none with state := .busy }
    have hw2 : Kp Wa (Wa.putObj (B + 1) (.loop { rec .ready none with state := .busy })) := hKb _ _ _ _ (by omega) hla
    refine wpIn_mono (hbody _ pre x a' _ (by omega) ⟨_, hb2.1⟩ (hIp _ _ _ _ _ hia (by omega) hla) ((hAx x a').putObj (s := ()) _ hax (by omega) hla rfl) hlen) ?_
    have fin : ∀ (jump : Option Code) (W3 : World), KeepsFrom B (Wa.putObj (B + 1) (.loop { rec .ready none with state := .busy })) W3 →
        (Instr.endRound (B + 1) jump).run P W3 = .ok (.bool jump.isNone) (W3.putObj (B + 1) (.loop (rec (if jump.isNone then .ready else .done) jump))) ∧
        W3.heap[B + 1]? = some (.loop { rec .ready none with state := .busy }) ∧ B + 2 ≤ W3.heap.size ∧ Books (W3.putObj (B + 1) (.loop (rec (if jump.isNone then .ready else .done) jump))) B (rec (if jump.isNone then .ready else .done) jump) := fun jump W3 hk3 => by
      have hb3 := hb2.keeps hk3
      have hr := run_endRound (P := P) jump hb3.1
      have hlt := (Array.getElem?_eq_some_iff.1 hb3.1).1
      refine ⟨?_, hb3.1, by omega, hb3.put _⟩
      rw [hrec] at hr ⊢
      exact hr
    have hsz : ∀ (W3 : World) (o : Obj), (W3.putObj (B + 1) o).heap.size = W3.heap.size := fun W3 o => by simp [World.putObj]
    rintro e a3 W3 hp
    cases e with
    | normal =>
      obtain ⟨hk3, hkp3, hi3⟩ := hp
      obtain ⟨hr, hl3, hs3, hb4⟩ := fin none W3 hk3
      exact ⟨_, _, hr, .inl ⟨rfl, ⟨⟨hIp _ _ _ _ _ hi3 (by omega) hl3, by rw [hsz]; exact hs3⟩, hb4⟩, hKt hkpa (hKt (hKt hw2 hkp3) (hKb _ _ _ _ (by omega) hl3))⟩⟩
    | ret =>
      obtain ⟨hk3, hi3⟩ := hp
      obtain ⟨hr, hl3, hs3, hb4⟩ := fin (some .ret) W3 hk3
      exact ⟨_, _, hr, .inr ⟨rfl, .ret, ⟨hIxp _ _ _ _ _ _ hi3 (by omega) hl3, by rw [hsz]; exact hs3⟩, hb4⟩⟩
    | exit id =>
      obtain ⟨hk3, hi3⟩ := hp
      obtain ⟨hr, hl3, hs3, hb4⟩ := fin (some (.exit id)) W3 hk3
      exact ⟨_, _, hr, .inr ⟨rfl, .exit id, ⟨hIxp _ _ _ _ _ _ hi3 (by omega) hl3, by rw [hsz]; exact hs3⟩, hb4⟩⟩
    | goto t =>
      obtain ⟨hk3, hi3⟩ := hp
      obtain ⟨hr, hl3, hs3, hb4⟩ := fin (some (.goto t)) W3 hk3
      exact ⟨_, _, hr, .inr ⟨rfl, .goto t, ⟨hIxp _ _ _ _ _ _ hi3 (by omega) hl3, by rw [hsz]; exact hs3⟩, hb4⟩⟩
    | panic ch => exact hp.elim
    | outgrown => exact hp.elim
  · rintro e W2 ⟨⟨v, rfl⟩, (⟨xs, hS, ⟨hi, _⟩, hb⟩ | ⟨pre, hSp, c, ⟨hi, _⟩, hb⟩)⟩
    · have hr := run_endLoop (P := P) hb.1 (by rw [hrec]; simp [loopRec])
      rw [hrec] at hr
      exact ⟨none, _, hr, hdone _ xs _ (Nat.le_refl _) hS (hIp _ _ _ _ _ hi (by omega) hb.1) ((World.putObj_heap_other (by omega)).trans hb.2)⟩
    · have hr := run_endLoop (P := P) hb.1 (by rw [hrec]; simp [loopRec])
      rw [hrec] at hr
      exact ⟨some c, _, hr, hstop _ c pre _ (Nat.le_refl _) hSp (hIxp _ _ _ _ _ _ hi (by omega) hb.1) ((World.putObj_heap_other (by omega)).trans hb.2)⟩
end

end Go.Proofs.YteclpoooggcdoaaGreatDoor

/- XDet2 once more, in a namespace of its own, and with an operation among the first ones that lays new memory. Nothing of the program stands here. -/
namespace Go.Proofs.YteclpoooggcdoaaGreatDoor.Ear
open Go

section
variable {F : Fence} {n : Nat} {P : Program} {ops : Array Oper} {Q : Exit → Act → World → Prop} {md : Region.Mode}

theorem ready_nil (hord : ∀ (i : Nat) (o : Oper) (e : Edge), ops[i]? = some o → e ∈ o.after → Region.binds md e = true → e.on < i) (listed : Array Bool) (hsz : listed.size = ops.size) (hr : Region.ready md ops listed = []) : ∀ i, i < ops.size → listed.getD i false = true := by
  have hall : ∀ k i, i < k → i < ops.size → listed.getD i false = true := by
    intro k
    induction k with
    | zero => intro i hi; omega
    | succ k ih =>
      intro i hi his
      rcases Nat.lt_or_ge i k with hlt | hge
      · exact ih i hlt his
      · obtain rfl : i = k := by omega
        apply Classical.byContradiction
        intro hn
        have hmem : i ∈ Region.ready md ops listed := by
          unfold Region.ready
          rw [List.mem_filter]
          refine ⟨List.mem_range.2 his, ?_⟩
          have hx : listed.getD i true = false := by
            simp only [Array.getD_eq_getD_getElem?] at hn ⊢
            rw [Array.getElem?_eq_getElem (by omega)] at hn ⊢
            simpa using hn
          rw [hx, Array.getElem?_eq_getElem his]
          simp only [Bool.not_false, Bool.true_and, Option.map_some, Option.getD_some, Array.all_eq_true]
          intro e he
          cases hb : Region.binds md ops[i].after[e] with
          | false => simp
          | true =>
            have h1 := hord i ops[i] _ (Array.getElem?_eq_getElem his) (Array.getElem_mem he) hb
            rw [ih _ h1 (by omega)]
            simp
        rw [hr] at hmem
        cases hmem
  exact fun i hi => hall (i + 1) i (by omega) hi
theorem left_set {listed : Array Bool} {i : Nat} (hsz : listed.size = ops.size) (his : i < ops.size) (hu : listed.getD i true = false) : left ops (listed.setIfInBounds i true) + 1 = left ops listed := by
    unfold left
    have key : ∀ (l : List Nat), l.Nodup → i ∈ l → ((l.filter fun j => !(listed.setIfInBounds i true).getD j true).length + 1 = (l.filter fun j => !listed.getD j true).length) ∧ True := by
      intro l hn hm
      induction l with
      | nil => cases hm
      | cons y l ihl =>
        have hno : ∀ (l' : List Nat), i ∉ l' → (l'.filter fun j => !(listed.setIfInBounds i true).getD j true) = (l'.filter fun j => !listed.getD j true) := by
          intro l' hni
          apply List.filter_congr
          intro j hj
          have hne : i ≠ j := fun e => hni (by rw [e]; exact hj)
          rw [getD_set _ _ _ _ (by omega), if_neg hne]
        rcases List.mem_cons.1 hm with rfl | hm'
        · have hni : i ∉ l := (List.nodup_cons.1 hn).1
          refine ⟨?_, trivial⟩
          rw [List.filter_cons, List.filter_cons, hno l hni, getD_set _ _ _ _ (by omega), hu]
          simp
        · have hyi : i ≠ y := fun e => (List.nodup_cons.1 hn).1 (e ▸ hm')
          have h3 := (ihl (List.nodup_cons.1 hn).2 hm').1
          refine ⟨?_, trivial⟩
          rw [List.filter_cons, List.filter_cons, getD_set _ _ _ _ (by omega), if_neg hyi]
          by_cases hy : listed.getD y true = true
          · simp [hy]; simpa using h3
          · simp [hy]; simpa using h3
    exact (key _ List.nodup_range (List.mem_range.2 his)).1

/-- What comes ahead of an operation, some steps back. -/
def ahead (md : Region.Mode) (ops : Array Oper) : Nat → Nat → List Nat
  | 0, _ => []
  | f + 1, i => match ops[i]? with
    | some o => (o.after.toList.filter (Region.binds md ·)).flatMap fun e => e.on :: ahead md ops f e.on
    | none => []
/-- All the first m operations come ahead of each later one. -/
def lateOps (md : Region.Mode) (ops : Array Oper) (m : Nat) : Bool := (List.range ops.size).all fun i => decide (i < m) || (List.range m).all fun j => (ahead md ops ops.size i).contains j
theorem ahead_listed {listed : Array Bool} (hcl : Closed md ops listed) : ∀ (f i : Nat) (o : Oper), ops[i]? = some o → (∀ e ∈ o.after, Region.binds md e = true → listed.getD e.on false = true) → ∀ j ∈ ahead md ops f i, j < ops.size → listed.getD j false = true
  | 0, _, _, _, _, _, hj, _ => by cases hj
  | f + 1, i, o, ho, haf, j, hj, hjs => by
    unfold ahead at hj
    rw [ho] at hj
    obtain ⟨e, he, hje⟩ := List.mem_flatMap.1 hj
    rw [List.mem_filter] at he
    have h1 := haf e (Array.mem_def.2 he.1) he.2
    rcases List.mem_cons.1 hje with rfl | hje
    · exact h1
    · cases hoe : ops[e.on]? with
      | none =>
        exfalso
        cases f with
        | zero => cases hje
        | succ f => unfold ahead at hje; rw [hoe] at hje; cases hje
      | some o' => exact ahead_listed hcl f e.on o' hoe (hcl e.on o' hoe h1) j hje hjs
theorem late_of {m : Nat} (hm : m ≤ ops.size) (h : lateOps md ops m = true) : ∀ (i : Nat) (o : Oper) (listed : Array Bool), m ≤ i → ops[i]? = some o → Closed md ops listed → (∀ e ∈ o.after, Region.binds md e = true → listed.getD e.on false = true) → ∀ j, j < m → listed.getD j false = true := by
  intro i o listed hmi ho hcl haf j hj
  unfold lateOps at h
  rw [List.all_eq_true] at h
  have h1 := h i (List.mem_range.2 (Array.getElem?_eq_some_iff.1 ho).1)
  rw [Bool.or_eq_true, decide_eq_true_eq] at h1
  rcases h1 with h1 | h1
  · omega
  · rw [List.all_eq_true] at h1
    have h2 := h1 j (List.mem_range.2 hj)
    exact ahead_listed hcl _ i o ho haf j (List.contains_iff_mem.1 h2) (by omega)

theorem wpAnyIn_early (m : Nat) (hm : m ≤ ops.size) (a0 : Act) (val : Nat → Value) (wd : Array Bool → World)
    (hg : ∀ (i : Nat) (o : Oper), ops[i]? = some o → o.guard = none)
    (hord : ∀ (i : Nat) (o : Oper) (e : Edge), ops[i]? = some o → e ∈ o.after → Region.binds md e = true → e.on < i)
    (hdst : ∀ (i j : Nat) (o o' : Oper) (d : Tmp), ops[i]? = some o → ops[j]? = some o' → o.dst = some d → o'.dst = some d → i = j)
    (hlate : lateOps md ops m = true)
    (hstep : ∀ (i : Nat) (o : Oper) (listed : Array Bool) (a : Act), i < m → ops[i]? = some o → listed.size = ops.size → listed.getD i false = false → (∀ e ∈ o.after, Region.binds md e = true → listed.getD e.on false = true) → Closed md ops listed → Shape ops a0 val listed a →
      (∀ f, o.about P (wd listed) a.eval = some f → F.fn f) ∧ ∃ r, (o.semAt F.round a.eval).run P (wd listed) = .ok r (wd (listed.setIfInBounds i true)) ∧ (r = .value (val i) ∨ (r = .skip ∧ val i = undef)))
    (hend : ∀ (listed : Array Bool) (a : Act), listed.size = ops.size → (∀ i, i < m → listed.getD i false = true) → (∀ i, m ≤ i → listed.getD i false = false) → Shape ops a0 val listed a → (∀ (j : Nat) (o : Oper) (d : Tmp), m ≤ j → ops[j]? = some o → o.dst = some d → a.tmps[d]? = a0.tmps[d]?) → wpAnyIn F n P md ops Q (left ops listed) listed a (wd listed)) :
    ∀ (fuel : Nat) (listed : Array Bool) (a : Act), listed.size = ops.size → left ops listed = fuel → (∀ i, m ≤ i → listed.getD i false = false) → Closed md ops listed → Shape ops a0 val listed a → (∀ (j : Nat) (o : Oper) (d : Tmp), m ≤ j → ops[j]? = some o → o.dst = some d → a.tmps[d]? = a0.tmps[d]?) → wpAnyIn F n P md ops Q fuel listed a (wd listed) := by
  intro fuel
  induction fuel with
  | zero =>
    intro listed a hsz hl hno hcl hS hB
    have hall : ∀ i, i < ops.size → listed.getD i true = true := by
      intro i hi
      have := List.eq_nil_of_length_eq_zero hl
      rw [List.filter_eq_nil_iff] at this
      simpa using this i (List.mem_range.2 hi)
    have hall2 : ∀ i, i < m → listed.getD i false = true := fun i hi => by
      have := hall i (by omega)
      simp only [Array.getD_eq_getD_getElem?] at this ⊢
      rw [Array.getElem?_eq_getElem (by omega)] at this ⊢
      exact this
    have := hend listed a hsz hall2 hno hS hB
    rw [hl] at this
    exact this
  | succ fuel ih =>
    intro listed a hsz hl hno hcl hS hB
    by_cases hall : ∀ i, i < m → listed.getD i false = true
    · have := hend listed a hsz hall hno hS hB
      rw [hl] at this
      exact this
    refine ⟨fun hr => (hall (fun i hi => ready_nil hord listed hsz hr i (by omega))).elim, fun i hi => ?_⟩
    unfold Region.ready at hi
    rw [List.mem_filter, List.mem_range] at hi
    obtain ⟨his, hcond⟩ := hi
    rw [Array.getElem?_eq_getElem his] at hcond
    simp only [Option.map_some, Option.getD_some, Bool.and_eq_true, Bool.not_eq_true'] at hcond
    obtain ⟨hu, haf⟩ := hcond
    have hu' : listed.getD i false = false := by
      simp only [Array.getD_eq_getD_getElem?] at hu ⊢
      rw [Array.getElem?_eq_getElem (by omega)] at hu ⊢
      simpa using hu
    have ho : ops[i]? = some ops[i] := Array.getElem?_eq_getElem his
    have haf' : ∀ e ∈ ops[i].after, Region.binds md e = true → listed.getD e.on false = true := fun e he hb => by
      rw [Array.all_eq_true'] at haf
      have := haf e he
      rw [hb] at this
      simpa using this
    have him : i < m := by
      rcases Nat.lt_or_ge i m with h | h
      · exact h
      · exact (hall (late_of hm hlate i ops[i] listed h ho hcl haf')).elim
    obtain ⟨hab, r, hrun, hr⟩ := hstep i ops[i] listed a him ho hsz hu' haf' hcl hS
    have hcl' : Closed md ops (listed.setIfInBounds i true) := by
      intro j o hj hl' e he hb
      rw [getD_set _ _ _ _ (by omega)] at hl' ⊢
      by_cases hie : i = e.on
      · rw [if_pos hie]
      · rw [if_neg hie]
        by_cases hij : i = j
        · subst hij
          rw [ho] at hj; cases hj
          exact haf' e he hb
        · rw [if_neg hij] at hl'
          exact hcl j o hj hl' e he hb
    have hnext : wpAnyIn F n P md ops Q fuel (listed.setIfInBounds i true) (a.put ops[i].dst (val i)) (wd (listed.setIfInBounds i true)) := by
      refine ih _ _ (by simp [hsz]) ?_ (fun j hj => ?_) hcl' (hS.put ho (by omega) hdst) (fun j o d hj hoj hd => ?_)
      · have hlt := left_set hsz his hu
        omega
      · rw [getD_set _ _ _ _ (by omega), if_neg (by omega)]
        exact hno j hj
      · rw [← hB j o d hj hoj hd]
        cases hdk : ops[i].dst with
        | none => rfl
        | some d0 =>
          simp only [Act.put]
          rw [Array.getElem?_setIfInBounds_ne (fun e => by
            have := hdst i j _ _ d ho hoj (by rw [hdk, e]) hd
            omega)]
    unfold wpOpIn
    rw [ho]
    have hw : Region.wanted ops[i] (yielded ops a.tmps) = true := by simp [Region.wanted, hg i _ ho]
    simp only [hw, if_true]
    refine ⟨hab, ?_⟩
    rw [hrun]
    rcases hr with rfl | ⟨rfl, hv⟩
    · exact hnext
    · rw [hv] at hnext; exact hnext

/-- The frame behind the first m. -/
theorem Shape.early {a0 a : Act} {val : Nat → Value} {l : Array Bool} {m : Nat} (hm : m ≤ ops.size) (h : Shape ops a0 val l a) (hl : ∀ i, i < m → l.getD i false = true)
    (hdst : ∀ (i j : Nat) (o o' : Oper) (d : Tmp), ops[i]? = some o → ops[j]? = some o' → o.dst = some d → o'.dst = some d → i = j)
    (hb : ∀ (j : Nat) (o : Oper) (d : Tmp), m ≤ j → ops[j]? = some o → o.dst = some d → a.tmps[d]? = a0.tmps[d]?) : a = finAct ops a0 val m := by
  have key : ∀ k, k ≤ m → ∃ l' : Array Bool, l'.size = ops.size ∧ (∀ i, i < k → l'.getD i false = true) ∧ (∀ i, k ≤ i → l'.getD i false = false) ∧ Shape ops a0 val l' (finAct ops a0 val k) ∧ ∀ (j : Nat) (o : Oper) (d : Tmp), k ≤ j → ops[j]? = some o → o.dst = some d → (finAct ops a0 val k).tmps[d]? = a0.tmps[d]? := by
    intro k
    induction k with
    | zero =>
      intro _
      have hz : ∀ j, (Array.replicate ops.size false).getD j false = false := by
        intro j
        simp only [Array.getD_eq_getD_getElem?, Array.getElem?_replicate]
        split <;> rfl
      refine ⟨Array.replicate ops.size false, by simp, fun i hi => by omega, fun i _ => hz i, ⟨rfl, rfl, fun _ _ => rfl, fun j o d hj _ _ hl => ?_⟩, fun _ _ _ _ _ _ => rfl⟩
      rw [hz] at hl; cases hl
    | succ k ih =>
      intro hk
      obtain ⟨l', h1, h2, h3, h4, h5⟩ := ih (by omega)
      have ho : ops[k]? = some ops[k] := Array.getElem?_eq_getElem (by omega)
      refine ⟨l'.setIfInBounds k true, by simp [h1], fun i hi => ?_, fun i hi => ?_, ?_, fun j o d hj hoj hd => ?_⟩
      · rw [getD_set _ _ _ _ (by omega)]
        split
        · rfl
        · exact h2 i (by omega)
      · rw [getD_set _ _ _ _ (by omega), if_neg (by omega)]
        exact h3 i (by omega)
      · simp only [finAct, ho]
        exact h4.put ho (by omega) hdst
      · simp only [finAct, ho]
        rw [← h5 j o d (by omega) hoj hd]
        cases hdk : ops[k].dst with
        | none => rfl
        | some d0 =>
          simp only [Act.put]
          rw [Array.getElem?_setIfInBounds_ne (fun e => by
            have := hdst k j _ _ d ho hoj (by rw [hdk, e]) hd
            omega)]
  obtain ⟨l', h1, h2, h3, h4, h5⟩ := key m (Nat.le_refl _)
  have e1 : a.tmps = (finAct ops a0 val m).tmps := by
    apply Array.ext_getElem?
    intro t
    by_cases hx : ∃ (j : Nat) (o : Oper), ops[j]? = some o ∧ o.dst = some t
    · obtain ⟨j, o, ho, hd⟩ := hx
      by_cases hjm : j < m
      · by_cases ht : t < a0.tmps.size
        · exact (h.set j o t ho hd ht (hl j hjm)).trans (h4.set j o t ho hd ht (h2 j hjm)).symm
        · have s1 := h.size
          have s2 := h4.size
          rw [Array.getElem?_eq_none (by omega), Array.getElem?_eq_none (by omega)]
      · rw [hb j o t (by omega) ho hd, h5 j o t (by omega) ho hd]
    · have hn : ∀ (j : Nat) (o : Oper), ops[j]? = some o → o.dst ≠ some t := fun j o ho hd => hx ⟨j, o, ho, hd⟩
      exact (h.base t hn).trans (h4.base t hn).symm
  have e2 : a.defers = (finAct ops a0 val m).defers := h.defers.trans h4.defers.symm
  cases a
  cases hf : finAct ops a0 val m
  rw [hf] at e1 e2
  simp only at e1 e2
  rw [e1, e2]

/-- The first k are listed. -/
def firstK (ops : Array Oper) (k : Nat) : Array Bool := ((List.range ops.size).map fun i => decide (i < k)).toArray
theorem firstK_get (ops : Array Oper) (k i : Nat) (hk : k ≤ ops.size) : (firstK ops k).getD i false = decide (i < k) := by
  unfold firstK
  simp only [Array.getD_eq_getD_getElem?, List.getElem?_toArray, List.getElem?_map]
  by_cases hi : i < ops.size
  · rw [List.getElem?_range hi]; rfl
  · rw [List.getElem?_eq_none (by simp; omega)]
    simp; omega
theorem firstK_size (ops : Array Oper) (k : Nat) : (firstK ops k).size = ops.size := by simp [firstK]
theorem firstK_set (ops : Array Oper) (k : Nat) (hk : k < ops.size) : (firstK ops k).setIfInBounds k true = firstK ops (k + 1) := by
  apply Array.ext_getElem?
  intro i
  by_cases hi : i < ops.size
  · have e : ∀ (l : Array Bool), l.size = ops.size → l[i]? = some (l.getD i false) := fun l hl => by
      simp only [Array.getD_eq_getD_getElem?]
      rw [Array.getElem?_eq_getElem (by omega)]
      rfl
    rw [e _ (by rw [Array.size_setIfInBounds, firstK_size]), e _ (firstK_size _ _), getD_set _ _ _ _ (by rw [firstK_size]; exact hk), firstK_get _ _ _ (by omega), firstK_get _ _ _ (by omega)]
    congr 1
    by_cases h : k = i
    · rw [if_pos h]; simp; omega
    · rw [if_neg h]; congr 1; exact propext ⟨fun h => by omega, fun h => by omega⟩
  · rw [Array.getElem?_eq_none (by rw [Array.size_setIfInBounds, firstK_size]; omega), Array.getElem?_eq_none (by rw [firstK_size]; omega)]
/-- From the m-th on they come one behind the other. -/
def chainOps (md : Region.Mode) (ops : Array Oper) (m : Nat) : Bool :=
  (List.range (ops.size - m)).all (fun d => Region.ready md ops (firstK ops (m + d)) == [m + d]) && (Region.ready md ops (firstK ops ops.size) == [])
theorem wpAnyIn_chain {m : Nat} (h : chainOps md ops m = true) : ∀ (d k : Nat) (a : Act) (w : World), d = ops.size - k → m ≤ k → k ≤ ops.size → wpListIn F n P ops Q (ops.toList.drop k) a w → wpAnyIn F n P md ops Q d (firstK ops k) a w := by
  unfold chainOps at h
  rw [Bool.and_eq_true, List.all_eq_true] at h
  obtain ⟨h1, h2⟩ := h
  intro d
  induction d with
  | zero =>
    intro k a w hd hm hk hw
    obtain rfl : k = ops.size := by omega
    rw [List.drop_of_length_le (by simp)] at hw
    exact ⟨by simpa using h2, hw⟩
  | succ d ih =>
    intro k a w hd hm hk hw
    have hr : Region.ready md ops (firstK ops k) = [k] := by
      have := h1 (k - m) (List.mem_range.2 (by omega))
      rw [show m + (k - m) = k by omega] at this
      simpa using this
    refine ⟨(fun e => by rw [hr] at e; cases e), fun i hi => ?_⟩
    rw [hr] at hi
    obtain rfl : i = k := by simpa using hi
    have hlt : i < ops.toList.length := by simp; omega
    have hds : ops.toList.drop i = ops[i]'(by omega) :: ops.toList.drop (i + 1) := by
      rw [List.drop_eq_getElem_cons hlt]
      rfl
    rw [hds] at hw
    unfold wpOpIn
    rw [Array.getElem?_eq_getElem (show i < ops.size by omega)]
    show if _ then _ else _
    simp only [wpListIn] at hw
    split at hw
    · rename_i hwt
      rw [if_pos hwt]
      refine Oper.wpIn_mono (fun a' w' hk' => ?_) hw
      rw [firstK_set ops i (by omega)]
      exact ih (i + 1) a' w' (by omega) (by omega) (by omega) hk'
    · rename_i hwt
      rw [if_neg hwt]
      refine ⟨hw.1, ?_⟩
      rw [firstK_set ops i (by omega)]
      exact ih (i + 1) _ w (by omega) (by omega) (by omega) hw.2

theorem left_firstK (m : Nat) (hm : m ≤ ops.size) (listed : Array Bool) (hsz : listed.size = ops.size) (h1 : ∀ i, i < m → listed.getD i false = true) (h2 : ∀ i, m ≤ i → listed.getD i false = false) : listed = firstK ops m := by
  apply Array.ext_getElem?
  intro i
  by_cases hi : i < ops.size
  · have e : ∀ (l : Array Bool), l.size = ops.size → l[i]? = some (l.getD i false) := fun l hl => by
      simp only [Array.getD_eq_getD_getElem?]
      rw [Array.getElem?_eq_getElem (by omega)]
      rfl
    rw [e _ hsz, e _ (firstK_size _ _), firstK_get _ _ _ hm]
    congr 1
    by_cases h : i < m
    · rw [h1 i h]; simp [h]
    · rw [h2 i (by omega)]; simp [h]
  · rw [Array.getElem?_eq_none (by omega), Array.getElem?_eq_none (by rw [firstK_size]; omega)]

/-- THE REGION'S LAW: the first m in one frame, the others one behind the other. -/
theorem wpIn_region_early {id : Nat} {a : Act} {w : World} (hm0 : P.follows .mixedOrders = true) (hp : plainOps ops = true) (m : Nat) (hm : m ≤ ops.size) (hlate : lateOps .any ops m = true) (hchain : chainOps .any ops m = true) (hleft : left ops (firstK ops m) = ops.size - m)
    (val : Nat → Value) (b : Act) (hb : finAct ops a val m = b) (late : List Oper) (hl : ops.toList.drop m = late)
    (hstep : ∀ (i : Nat) (o : Oper) (listed : Array Bool) (a' : Act), i < m → ops[i]? = some o → listed.size = ops.size → listed.getD i false = false → (∀ e ∈ o.after, Region.binds .any e = true → listed.getD e.on false = true) → Closed .any ops listed → Shape ops a val listed a' →
      (∀ f, o.about P w.drew a'.eval = some f → F.fn f) ∧ ∃ r, (o.semAt F.round a'.eval).run P w.drew = .ok r w.drew ∧ (r = .value (val i) ∨ (r = .skip ∧ val i = undef)))
    (hend : wpListIn F n P ops Q late b w.drew) : (Code.region id ops true).wpIn F n P Q a w := by
  refine wpIn_region_any hm0 ?_
  have hw' : w.drew = { w with drawn := w.drawn + 1 } := rfl
  rw [← hw']
  have hall : ∀ j d, (Array.replicate ops.size false).getD j d = if j < ops.size then false else d := by
    intro j d
    simp only [Array.getD_eq_getD_getElem?, Array.getElem?_replicate]
    split <;> rfl
  obtain ⟨hg, hord, hdst⟩ := plainOps_spec hp
  refine wpAnyIn_early m hm a val (fun _ => w.drew) hg hord hdst hlate hstep (fun listed a' hsz h1 h2 hS hB => ?_) ops.size _ a (by simp) ?_ (fun j _ => by rw [hall]; split <;> rfl) (fun j o hj hl => by rw [hall] at hl; split at hl <;> cases hl) ⟨rfl, rfl, fun _ _ => rfl, fun j o d hj _ _ hl => ?_⟩ (fun _ _ _ _ _ _ => rfl)
  · rw [left_firstK m hm listed hsz h1 h2, hleft, Shape.early hm hS h1 hdst hB, hb]
    exact wpAnyIn_chain hchain _ m b _ rfl (Nat.le_refl _) hm (by rw [hl]; exact hend)
  · unfold left
    rw [List.filter_eq_self.2 (fun i hi => by rw [hall, if_pos (List.mem_range.1 hi)]; rfl), List.length_range]
  · rw [hall] at hl
    split at hl <;> cases hl
theorem wpIn_region_earlyW {id : Nat} {a : Act} {w : World} (hm0 : P.follows .mixedOrders = true) (hp : plainOps ops = true) (m : Nat) (hm : m ≤ ops.size) (hlate : lateOps .any ops m = true) (hchain : chainOps .any ops m = true) (hleft : left ops (firstK ops m) = ops.size - m)
    (val : Nat → Value) (b : Act) (hb : finAct ops a val m = b) (late : List Oper) (hl : ops.toList.drop m = late) (wd : Array Bool → World) (h0 : wd (Array.replicate ops.size false) = w.drew)
    (hstep : ∀ (i : Nat) (o : Oper) (listed : Array Bool) (a' : Act), i < m → ops[i]? = some o → listed.size = ops.size → listed.getD i false = false → (∀ e ∈ o.after, Region.binds .any e = true → listed.getD e.on false = true) → Closed .any ops listed → Shape ops a val listed a' →
      (∀ f, o.about P (wd listed) a'.eval = some f → F.fn f) ∧ ∃ r, (o.semAt F.round a'.eval).run P (wd listed) = .ok r (wd (listed.setIfInBounds i true)) ∧ (r = .value (val i) ∨ (r = .skip ∧ val i = undef)))
    (hend : wpListIn F n P ops Q late b (wd (firstK ops m))) : (Code.region id ops true).wpIn F n P Q a w := by
  refine wpIn_region_any hm0 ?_
  have hw' : w.drew = { w with drawn := w.drawn + 1 } := rfl
  rw [← hw', ← h0]
  have hall : ∀ j d, (Array.replicate ops.size false).getD j d = if j < ops.size then false else d := by
    intro j d
    simp only [Array.getD_eq_getD_getElem?, Array.getElem?_replicate]
    split <;> rfl
  obtain ⟨hg, hord, hdst⟩ := plainOps_spec hp
  refine wpAnyIn_early m hm a val wd hg hord hdst hlate hstep (fun listed a' hsz h1 h2 hS hB => ?_) ops.size _ a (by simp) ?_ (fun j _ => by rw [hall]; split <;> rfl) (fun j o hj hl => by rw [hall] at hl; split at hl <;> cases hl) ⟨rfl, rfl, fun _ _ => rfl, fun j o d hj _ _ hl => ?_⟩ (fun _ _ _ _ _ _ => rfl)
  · rw [left_firstK m hm listed hsz h1 h2, hleft, Shape.early hm hS h1 hdst hB, hb]
    exact wpAnyIn_chain hchain _ m b _ rfl (Nat.le_refl _) hm (by rw [hl]; exact hend)
  · unfold left
    rw [List.filter_eq_self.2 (fun i hi => by rw [hall, if_pos (List.mem_range.1 hi)]; rfl), List.length_range]
  · rw [hall] at hl
    split at hl <;> cases hl
end
end Go.Proofs.YteclpoooggcdoaaGreatDoor.Ear
/- The law on a range over a function, to a loop whose rounds know what is yielded as it lies in memory (GrOrd's once more). Nothing of the program stands here. -/
namespace Go.Proofs.YteclpoooggcdoaaGreatDoor
open Go Go.RowKit
/-- I abides steps that leave all that there is. -/
def AbW {β : Type} (I : β → World → Prop) : Prop := ∀ s X Y, I s X → Below X.heap.size X Y → I s Y
/-- AN ITERATOR's WORD, to loops whose rounds know what is yielded, as it lies in memory. -/
def SeqStopsW {α : Type} (F : Fence) (n : Nat) (P : Program) (g : Nat) (lb : Array Value) (encs : α → Array Value) (Kp : World → World → Prop) (S Sp : List α → Prop) (Nx : List α → α → World → Prop) (w : World) : Prop :=
  ∀ (l : Nat) (J Jx : List α → World → Prop) (W : World), Below w.heap.size w W → AbW J → AbW Jx →
    (∀ pre x W1, J pre W1 → Nx pre x W1 → W.heap.size ≤ W1.heap.size → YieldAt F (n - 1) P l (encs x) W1 fun e W' =>
      (e = .returned (.bool true) ∧ J (pre ++ [x]) W' ∧ Kp W1 W') ∨ (e = .returned (.bool false) ∧ Jx (pre ++ [x]) W')) →
    J [] W →
    CallsIn F n P g (#[.func (.yield l) #[] #[]] ++ lb) W fun e W' => (∃ v, e = .returned v) ∧ ((∃ xs, S xs ∧ J xs W') ∨ (∃ pre, Sp pre ∧ Jx pre W'))

section
variable {F : Fence} {n : Nat} {P : Program} {w : World}
theorem wpIn_rangeFunc_ownW {α : Type} {g : Operand} {ps : Array Tmp} {assign body : Code} {Q : Exit → Act → World → Prop} {a : Act} {w : World}
    (hro : F.round = none) (h1 : 1 ≤ n) {gf : Nat} {lb : Array Value} (hg : a.eval g = .func (.func gf) #[] lb) (hFg : F.fn gf) (eg : ∀ args w, (callFunc gf args).run P w = .ok (.enter gf args) w)
    {encs : α → Array Value} {Kp : World → World → Prop} {S Sp : List α → Prop} {Nx : List α → α → World → Prop} {w0 : World} (hseq : SeqStopsW F (n - 1) P gf lb encs Kp S Sp Nx w0)
    (hKt : ∀ {A B C : World}, Kp A B → Kp B C → Kp A C) (hKb : ∀ (W : World) (l : Nat) (r r' : Loop), w.heap.size ≤ l → W.heap[l]? = some (.loop r) → Kp W (W.putObj l (.loop r'))) (hb0 : Below w0.heap.size w0 w) (hps : ∀ x, (encs x).size = ps.size)
    (I : List α → World → Prop) (Ix : Code → List α → World → Prop) (hI : AbW I) (hIx : ∀ c, AbW (Ix c))
    (hIp : ∀ (s : List α) (W : World) (l : Nat) (r r' : Loop), I s W → w.heap.size ≤ l → W.heap[l]? = some (.loop r) → I s (W.putObj l (.loop r')))
    (hIxp : ∀ (c : Code) (s : List α) (W : World) (l : Nat) (r r' : Loop), Ix c s W → w.heap.size ≤ l → W.heap[l]? = some (.loop r) → Ix c s (W.putObj l (.loop r'))) (h0 : I [] w) (Ax : List α → α → Act → World → Prop)
    (hAx : ∀ (pre : List α) (x : α) (a' : Act) (W : World) (l : Nat) (r r' : Loop), Ax pre x a' W → w.heap.size ≤ l → W.heap[l]? = some (.loop r) → Ax pre x a' (W.putObj l (.loop r')))
    (hassign : ∀ (l : Nat) (pre : List α) (x : α) (W : World) (K : Act → World → Prop), I pre W → Nx pre x W → w.heap.size ≤ W.heap.size → (∀ a' W', KeepsFrom w.heap.size W W' → Kp W W' → I pre W' → Ax pre x a' W' → K a' W') →
      assign.wpIn (F.inRound l) (n - 1 - 1) P (Exit.then K (fun _ _ _ => False)) { tmps := (ps.zip (encs x)).foldl (fun t (p, v) => t.setIfInBounds p v) a.tmps, defers := [] } W)
    (hbody : ∀ (l : Nat) (pre : List α) (x : α) (a' : Act) (W : World), w.heap.size ≤ l → (∃ r, W.heap[l]? = some (.loop r)) → I pre W → Ax pre x a' W → body.wpIn (F.inRound l) (n - 1 - 1) P (ownPostG w.heap.size Kp I Ix (pre ++ [x]) W) a' W)
    (hdone : ∀ (D : Nat) (xs : List α) (W : World), w.heap.size ≤ D → S xs → I xs W → W.heap[D]? = some (.deferred (some [])) → Q .normal { a with defers := { target := .collected D, args := #[] } :: a.defers } W)
    (hstop : ∀ (D : Nat) (c : Code) (pre : List α) (W : World), w.heap.size ≤ D → Sp pre → Ix c pre W → W.heap[D]? = some (.deferred (some [])) → c.wpIn F n P Q { a with defers := { target := .collected D, args := #[] } :: a.defers } W) :
    (Code.rangeFunc g ps assign body).wpIn F n P Q a w := by
  refine wpIn_rangeFunc fun fn hfn => ?_
  rw [hro]
  obtain ⟨B, hB⟩ : ∃ B, B = w.heap.size := ⟨_, rfl⟩
  rw [← hB] at hIp hIxp hAx hassign hbody hdone hstop hKb
  obtain ⟨rec, hrec⟩ : ∃ rec : LoopState → Option Code → Loop, rec = loopRec fn a.tmps ps assign body B := ⟨_, rfl⟩
  obtain ⟨W1, hW1⟩ : ∃ W1, W1 = (w.alloc (.deferred (some []))).alloc (.loop (rec .ready none)) := ⟨_, rfl⟩
  have hs1 : W1.heap.size = B + 2 := by rw [hW1, hB]; simp
  have hbB : Below B w W1 := by rw [hW1, hB]; exact ((Below.refl _ w).alloc (Nat.le_refl _) _).alloc (by simp) _
  have hbk : Books W1 B (rec .ready none) := by
    rw [hW1, hB]
    refine ⟨?_, (Below.heap_alloc _ _ _ (by simp)).trans (World.alloc_heap_new w _)⟩
    have := World.alloc_heap_new (w.alloc (.deferred (some []))) (.loop (rec .ready none))
    rwa [World.size_alloc] at this
  refine ⟨B + 1, [{ target := .collected B, args := #[] }], W1, { target := .fn (.func gf) lb, args := #[.func (.yield (B + 1)) #[] #[]] }, W1, gf, #[.func (.yield (B + 1)) #[] #[]] ++ lb, W1, ?_, ?_, ?_, ?_, fun _ => h1, ?_⟩
  · rw [hW1, hrec, hB]; exact run_enterLoop_outer _ _ _ _ _
  · simp only [resolve, hg]
    simp [go_sem]
  · intro f' hf'; simp [Target.leads] at hf'; subst hf'; exact hFg
  · simp [invoke, go_sem, eg]
  refine (hseq (B + 1) (fun pre W => (I pre W ∧ B + 2 ≤ W.heap.size) ∧ Books W B (rec .ready none)) (fun pre W => ∃ c, (Ix c pre W ∧ B + 2 ≤ W.heap.size) ∧ Books W B (rec .done (some c))) W1 (hb0.trans (hbB.mono (by rw [hB]; exact hb0.size))) ?_ ?_ ?_ ⟨⟨hI _ _ _ h0 (by rw [← hB]; exact hbB), by omega⟩, hbk⟩).mono ?_
  · rintro s X Y ⟨⟨hi, hs⟩, hb⟩ hXY
    exact ⟨⟨hI _ _ _ hi hXY, Nat.le_trans hs hXY.size⟩, hb.below (hXY.mono (by omega))⟩
  · rintro s X Y ⟨c, ⟨hi, hs⟩, hb⟩ hXY
    exact ⟨c, ⟨hIx c _ _ _ hi hXY, Nat.le_trans hs hXY.size⟩, hb.below (hXY.mono (by omega))⟩
  · rintro pre x W ⟨⟨hi, hsW⟩, hbk⟩ hlen _
    have hy := run_yield (P := P) (args := encs x) hbk.1 (by rw [hrec]; exact hps x)
    rw [hrec] at hy
    refine ⟨fn, _, assign, body, hy, roundIn_of_wpIn hfn (hassign _ pre x W _ hi hlen (by omega) ?_)⟩
    intro a' Wa hka hkpa hia hax
    have hba := hbk.keeps hka
    have hla := hba.1
    refine ⟨_, run_beginRound hla (by rw [hrec]; rfl), ?_⟩
    have hb2 := hba.put { rec .ready none with state := .busy }
    have hw2 : Kp Wa (Wa.putObj (B + 1) (.loop { rec .ready none with state := .busy })) := hKb _ _ _ _ (by omega) hla
    refine wpIn_mono (hbody _ pre x a' _ (by omega) ⟨_, hb2.1⟩ (hIp _ _ _ _ _ hia (by omega) hla) (hAx pre x a' _ _ _ _ hax (by omega) hla)) ?_
    have fin : ∀ (jump : Option Code) (W3 : World), KeepsFrom B (Wa.putObj (B + 1) (.loop { rec .ready none with state := .busy })) W3 →
        (Instr.endRound (B + 1) jump).run P W3 = .ok (.bool jump.isNone) (W3.putObj (B + 1) (.loop (rec (if jump.isNone then .ready else .done) jump))) ∧
        W3.heap[B + 1]? = some (.loop { rec .ready none with state := .busy }) ∧ B + 2 ≤ W3.heap.size ∧ Books (W3.putObj (B + 1) (.loop (rec (if jump.isNone then .ready else .done) jump))) B (rec (if jump.isNone then .ready else .done) jump) := fun jump W3 hk3 => by
      have hb3 := hb2.keeps hk3
      have hr := run_endRound (P := P) jump hb3.1
      have hlt := (Array.getElem?_eq_some_iff.1 hb3.1).1
      refine ⟨?_, hb3.1, by omega, hb3.put _⟩
      rw [hrec] at hr ⊢
      exact hr
    have hsz : ∀ (W3 : World) (o : Obj), (W3.putObj (B + 1) o).heap.size = W3.heap.size := fun W3 o => by simp [World.putObj]
    rintro e a3 W3 hp
    cases e with
    | normal =>
      obtain ⟨hk3, hkp3, hi3⟩ := hp
      obtain ⟨hr, hl3, hs3, hb4⟩ := fin none W3 hk3
      exact ⟨_, _, hr, .inl ⟨rfl, ⟨⟨hIp _ _ _ _ _ hi3 (by omega) hl3, by rw [hsz]; exact hs3⟩, hb4⟩, hKt hkpa (hKt (hKt hw2 hkp3) (hKb _ _ _ _ (by omega) hl3))⟩⟩
    | ret =>
      obtain ⟨hk3, hi3⟩ := hp
      obtain ⟨hr, hl3, hs3, hb4⟩ := fin (some .ret) W3 hk3
      exact ⟨_, _, hr, .inr ⟨rfl, .ret, ⟨hIxp _ _ _ _ _ _ hi3 (by omega) hl3, by rw [hsz]; exact hs3⟩, hb4⟩⟩
    | exit id =>
      obtain ⟨hk3, hi3⟩ := hp
      obtain ⟨hr, hl3, hs3, hb4⟩ := fin (some (.exit id)) W3 hk3
      exact ⟨_, _, hr, .inr ⟨rfl, .exit id, ⟨hIxp _ _ _ _ _ _ hi3 (by omega) hl3, by rw [hsz]; exact hs3⟩, hb4⟩⟩
    | goto t =>
      obtain ⟨hk3, hi3⟩ := hp
      obtain ⟨hr, hl3, hs3, hb4⟩ := fin (some (.goto t)) W3 hk3
      exact ⟨_, _, hr, .inr ⟨rfl, .goto t, ⟨hIxp _ _ _ _ _ _ hi3 (by omega) hl3, by rw [hsz]; exact hs3⟩, hb4⟩⟩
    | panic ch => exact hp.elim
    | outgrown => exact hp.elim
  · rintro e W2 ⟨⟨v, rfl⟩, (⟨xs, hS, ⟨hi, _⟩, hb⟩ | ⟨pre, hSp, c, ⟨hi, _⟩, hb⟩)⟩
    · have hr := run_endLoop (P := P) hb.1 (by rw [hrec]; simp [loopRec])
      rw [hrec] at hr
      exact ⟨none, _, hr, hdone _ xs _ (Nat.le_refl _) hS (hIp _ _ _ _ _ hi (by omega) hb.1) ((World.putObj_heap_other (by omega)).trans hb.2)⟩
    · have hr := run_endLoop (P := P) hb.1 (by rw [hrec]; simp [loopRec])
      rw [hrec] at hr
      exact ⟨some c, _, hr, hstop _ c pre _ (Nat.le_refl _) hSp (hIxp _ _ _ _ _ _ hi (by omega) hb.1) ((World.putObj_heap_other (by omega)).trans hb.2)⟩
end

end Go.Proofs.YteclpoooggcdoaaGreatDoor
/- A region that draws its order within a fence, with calls among its operations: one frame, whatever the order (by wip/gen/gr_shp.py). Nothing of the program stands here. A region that draws its order within a fence, with guards: one frame, whatever the order (by wip/gen/gr_shp.py). Nothing of the program stands here. -/
/- A region that draws its order within a fence, with calls among its operations: one frame, whatever the order (by wip/gen/gr_shp.py). Nothing of the program stands here. -/
namespace Go.Proofs.YteclpoooggcdoaaGreatDoor
open Go
section
variable {F : Fence} {n : Nat} {P : Program} {ops : Array Oper} {Q : Exit → Act → World → Prop} {md : Region.Mode}

/-- WHATEVER THE ORDER, ONE FRAME: each operation that may come up puts its own value, and keeps what is said of the world. -/
theorem wpAnyIn_shape (a0 : Act) (val : Nat → Value) (J : Array Bool → World → Prop)
    (hg : ∀ (i : Nat) (o : Oper), ops[i]? = some o → o.guard = none)
    (hord : ∀ (i : Nat) (o : Oper) (e : Edge), ops[i]? = some o → e ∈ o.after → Region.binds md e = true → e.on < i)
    (hdst : ∀ (i j : Nat) (o o' : Oper) (d : Tmp), ops[i]? = some o → ops[j]? = some o' → o.dst = some d → o'.dst = some d → i = j)
    (hstep : ∀ (i : Nat) (o : Oper) (listed : Array Bool) (a : Act) (w : World), ops[i]? = some o → listed.size = ops.size → listed.getD i false = false → (∀ e ∈ o.after, Region.binds md e = true → listed.getD e.on false = true) → Shape ops a0 val listed a → J listed w →
      o.wpIn F n P a w (fun a' w' => a' = a.put o.dst (val i) ∧ J (listed.setIfInBounds i true) w') Q)
    (hend : ∀ (listed : Array Bool) (a : Act) (w : World), (∀ i, i < ops.size → listed.getD i false = true) → Shape ops a0 val listed a → J listed w → Q .normal a w) :
    ∀ (fuel : Nat) (listed : Array Bool) (a : Act) (w : World), listed.size = ops.size → left ops listed = fuel → Shape ops a0 val listed a → J listed w → wpAnyIn F n P md ops Q fuel listed a w := by
  have hfin : ∀ (listed : Array Bool), listed.size = ops.size → Region.ready md ops listed = [] → ∀ i, i < ops.size → listed.getD i false = true := by
    intro listed hsz hr
    have hall : ∀ k i, i < k → i < ops.size → listed.getD i false = true := by
      intro k
      induction k with
      | zero => intro i hi; omega
      | succ k ih =>
        intro i hi his
        rcases Nat.lt_or_ge i k with hlt | hge
        · exact ih i hlt his
        · obtain rfl : i = k := by omega
          apply Classical.byContradiction
          intro hn
          have hmem : i ∈ Region.ready md ops listed := by
            unfold Region.ready
            rw [List.mem_filter]
            refine ⟨List.mem_range.2 his, ?_⟩
            have hx : listed.getD i true = false := by
              simp only [Array.getD_eq_getD_getElem?] at hn ⊢
              rw [Array.getElem?_eq_getElem (by omega)] at hn ⊢
              simpa using hn
            rw [hx, Array.getElem?_eq_getElem his]
            simp only [Bool.not_false, Bool.true_and, Option.map_some, Option.getD_some, Array.all_eq_true]
            intro e he
            cases hb : Region.binds md ops[i].after[e] with
            | false => simp
            | true =>
              have h1 := hord i ops[i] _ (Array.getElem?_eq_getElem his) (Array.getElem_mem he) hb
              rw [ih _ h1 (by omega)]
              simp
          rw [hr] at hmem
          cases hmem
    exact fun i hi => hall (i + 1) i (by omega) hi
  intro fuel
  induction fuel with
  | zero =>
    intro listed a w hsz hl hS hJ
    have hall : ∀ i, i < ops.size → listed.getD i true = true := by
      intro i hi
      have := List.eq_nil_of_length_eq_zero hl
      rw [List.filter_eq_nil_iff] at this
      simpa using this i (List.mem_range.2 hi)
    have hr : Region.ready md ops listed = [] := by
      unfold Region.ready
      rw [List.filter_eq_nil_iff]
      intro i hi
      rw [hall i (List.mem_range.1 hi)]
      simp
    exact ⟨hr, hend listed a w (hfin listed hsz hr) hS hJ⟩
  | succ fuel ih =>
    intro listed a w hsz hl hS hJ
    refine ⟨fun hr => hend listed a w (hfin listed hsz hr) hS hJ, fun i hi => ?_⟩
    unfold Region.ready at hi
    rw [List.mem_filter, List.mem_range] at hi
    obtain ⟨his, hcond⟩ := hi
    rw [Array.getElem?_eq_getElem his] at hcond
    simp only [Option.map_some, Option.getD_some, Bool.and_eq_true, Bool.not_eq_true'] at hcond
    obtain ⟨hu, haf⟩ := hcond
    have hu' : listed.getD i false = false := by
      simp only [Array.getD_eq_getD_getElem?] at hu ⊢
      rw [Array.getElem?_eq_getElem (by omega)] at hu ⊢
      simpa using hu
    have ho : ops[i]? = some ops[i] := Array.getElem?_eq_getElem his
    have hlt : left ops (listed.setIfInBounds i true) + 1 = left ops listed := by
      unfold left
      have key : ∀ (l : List Nat), l.Nodup → i ∈ l → ((l.filter fun j => !(listed.setIfInBounds i true).getD j true).length + 1 = (l.filter fun j => !listed.getD j true).length) ∧ True := by
        intro l hn hm
        induction l with
        | nil => cases hm
        | cons y l ihl =>
          have hno : ∀ (l' : List Nat), i ∉ l' → (l'.filter fun j => !(listed.setIfInBounds i true).getD j true) = (l'.filter fun j => !listed.getD j true) := by
            intro l' hni
            apply List.filter_congr
            intro j hj
            have hne : i ≠ j := fun e => hni (by rw [e]; exact hj)
            rw [getD_set _ _ _ _ (by omega), if_neg hne]
          rcases List.mem_cons.1 hm with rfl | hm'
          · have hni : i ∉ l := (List.nodup_cons.1 hn).1
            refine ⟨?_, trivial⟩
            rw [List.filter_cons, List.filter_cons, hno l hni, getD_set _ _ _ _ (by omega), hu]
            simp
          · have hyi : i ≠ y := fun e => (List.nodup_cons.1 hn).1 (e ▸ hm')
            have h3 := (ihl (List.nodup_cons.1 hn).2 hm').1
            refine ⟨?_, trivial⟩
            rw [List.filter_cons, List.filter_cons, getD_set _ _ _ _ (by omega), if_neg hyi]
            by_cases hy : listed.getD y true = true
            · simp [hy]; simpa using h3
            · simp [hy]; simpa using h3
      exact (key _ List.nodup_range (List.mem_range.2 his)).1
    unfold wpOpIn
    rw [ho]
    have hw : Region.wanted ops[i] (yielded ops a.tmps) = true := by simp [Region.wanted, hg i _ ho]
    simp only [hw, if_true]
    refine Oper.wpIn_mono (fun a' w' h' => ?_) (hstep i ops[i] listed a w ho hsz hu' (fun e he hb => ?_) hS hJ)
    · obtain ⟨rfl, hJ'⟩ := h'
      exact ih _ _ _ (by simp [hsz]) (by omega) (hS.put ho (by omega) hdst) hJ'
    · rw [Array.all_eq_true'] at haf
      have := haf e he
      rw [hb] at this
      simpa using this

/-- THE LAW. -/
theorem wpIn_region_shape {id : Nat} {a : Act} {w : World} (hm : P.follows .mixedOrders = true) (hp : plainOps ops = true) (val : Nat → Value) (b : Act) (hb : finAct ops a val ops.size = b) (J : Array Bool → World → Prop) (h0 : J (Array.replicate ops.size false) w.drew)
    (hstep : ∀ (i : Nat) (o : Oper) (listed : Array Bool) (a' : Act) (w' : World), ops[i]? = some o → listed.size = ops.size → listed.getD i false = false → (∀ e ∈ o.after, Region.binds .any e = true → listed.getD e.on false = true) → Shape ops a val listed a' → J listed w' →
      o.wpIn F n P a' w' (fun a'' w'' => a'' = a'.put o.dst (val i) ∧ J (listed.setIfInBounds i true) w'') Q)
    (hend : ∀ (listed : Array Bool) (w' : World), (∀ i, i < ops.size → listed.getD i false = true) → J listed w' → Q .normal b w') : (Code.region id ops true).wpIn F n P Q a w := by
  refine wpIn_region_any hm ?_
  have hall : ∀ j d, (Array.replicate ops.size false).getD j d = if j < ops.size then false else d := by
    intro j d
    simp only [Array.getD_eq_getD_getElem?, Array.getElem?_replicate]
    split <;> rfl
  obtain ⟨hg, hord, hdst⟩ := plainOps_spec hp
  refine wpAnyIn_shape a val J hg hord hdst hstep (fun listed a' w' hl hS hJ => by rw [hS.final hl hdst, hb]; exact hend listed w' hl hJ) ops.size _ a _ (by simp) ?_ ⟨rfl, rfl, fun _ _ => rfl, fun j o d hj _ _ hl => ?_⟩ h0
  · unfold left
    rw [List.filter_eq_self.2 (fun i hi => by rw [hall, if_pos (List.mem_range.1 hi)]; rfl), List.length_range]
  · rw [hall] at hl; split at hl <;> cases hl
theorem op_val {o : Oper} {a : Act} {w : World} {K : Act → World → Prop} (v : Value) (w' : World) (hab : ∀ f, o.about P w a.eval = some f → F.fn f) (hrun : (o.semAt F.round a.eval).run P w = .ok (.value v) w') (hk : K (a.put o.dst v) w') : o.wpIn F n P a w K Q := by
  refine ⟨hab, ?_⟩
  rw [hrun]
  exact hk
theorem op_skip {o : Oper} {a : Act} {w : World} {K : Act → World → Prop} (w' : World) (hab : ∀ f, o.about P w a.eval = some f → F.fn f) (hrun : (o.semAt F.round a.eval).run P w = .ok .skip w') (hk : K (a.put o.dst undef) w') : o.wpIn F n P a w K Q := by
  refine ⟨hab, ?_⟩
  rw [hrun]
  exact hk
theorem op_call {o : Oper} {a : Act} {w : World} {K : Act → World → Prop} (f : FuncId) (args : Array Value) (hab : ∀ f, o.about P w a.eval = some f → F.fn f) (hrun : (o.semAt F.round a.eval).run P w = .ok (.enter f args) w) (hn : 1 ≤ n) (hc : CallsIn F (n - 1) P f args w (fun e w' => ∃ v, e = .returned v ∧ K (a.put o.dst v) w')) : o.wpIn F n P a w K Q := by
  refine ⟨hab, ?_⟩
  rw [hrun, Oper.uponIn_enter]
  refine ⟨fun _ => hn, hc.mono ?_⟩
  rintro e w' ⟨v, rfl, hk⟩
  exact hk
end
end Go.Proofs.YteclpoooggcdoaaGreatDoor

/- A region that draws its order within a fence, with guards: one frame, whatever the order (by wip/gen/gr_shp.py). Nothing of the program stands here. -/
namespace Go.Proofs.YteclpoooggcdoaaGreatDoor
open Go
section
variable {F : Fence} {n : Nat} {P : Program} {ops : Array Oper} {Q : Exit → Act → World → Prop} {md : Region.Mode}

theorem wpOpIn_mono' {i : Nat} {a : Act} {w : World} {K K' : Act → World → Prop} (h : ∀ a w, K a w → K' a w) (hh : wpOpIn F n P ops Q i K a w) : wpOpIn F n P ops Q i K' a w := by
  unfold wpOpIn at hh ⊢
  cases ho : ops[i]? with
  | none => rw [ho] at hh; exact h _ _ hh
  | some o =>
    rw [ho] at hh
    dsimp only at hh ⊢
    split
    · rename_i hw
      rw [if_pos hw] at hh
      exact Oper.wpIn_mono h hh
    · rename_i hw
      rw [if_neg hw] at hh
      exact ⟨hh.1, h _ _ hh.2⟩
/-- Each comes behind earlier ones alone; no two write one slot. -/
def guardOps (ops : Array Oper) : Bool :=
  (List.range ops.size).all (fun i => match ops[i]? with | some o => o.after.all (fun e => !Region.binds .any e || decide (e.on < i)) | none => true) &&
  (List.range ops.size).all (fun i => (List.range ops.size).all fun j => i == j || match ops[i]?, ops[j]? with | some o, some o' => (match o.dst, o'.dst with | some d, some d' => d != d' | _, _ => true) | _, _ => true)
theorem guardOps_spec (h : guardOps ops = true) :
    (∀ (i : Nat) (o : Oper) (e : Edge), ops[i]? = some o → e ∈ o.after → Region.binds .any e = true → e.on < i) ∧
    (∀ (i j : Nat) (o o' : Oper) (d : Tmp), ops[i]? = some o → ops[j]? = some o' → o.dst = some d → o'.dst = some d → i = j) := by
  unfold guardOps at h
  rw [Bool.and_eq_true] at h
  obtain ⟨h2, h3⟩ := h
  rw [List.all_eq_true] at h2 h3
  refine ⟨fun i o e ho he hb => ?_, fun i j o o' d ho ho' hd hd' => ?_⟩
  · have := h2 i (List.mem_range.2 (Array.getElem?_eq_some_iff.1 ho).1)
    rw [ho] at this
    simp only [Array.all_eq_true'] at this
    simpa [hb] using this e he
  · have h4 := h3 i (List.mem_range.2 (Array.getElem?_eq_some_iff.1 ho).1)
    rw [List.all_eq_true] at h4
    have h5 := h4 j (List.mem_range.2 (Array.getElem?_eq_some_iff.1 ho').1)
    rw [ho, ho'] at h5
    simp only [hd, hd'] at h5
    simpa using h5
/-- WHATEVER THE ORDER, ONE FRAME: each operation that may come up puts its own value, and keeps what is said of the world. -/
theorem wpAnyIn_shapeG (a0 : Act) (val : Nat → Value) (J : Array Bool → World → Prop)
    (hord : ∀ (i : Nat) (o : Oper) (e : Edge), ops[i]? = some o → e ∈ o.after → Region.binds md e = true → e.on < i)
    (hdst : ∀ (i j : Nat) (o o' : Oper) (d : Tmp), ops[i]? = some o → ops[j]? = some o' → o.dst = some d → o'.dst = some d → i = j)
    (hstep : ∀ (i : Nat) (o : Oper) (listed : Array Bool) (a : Act) (w : World), ops[i]? = some o → listed.size = ops.size → listed.getD i false = false → (∀ e ∈ o.after, Region.binds md e = true → listed.getD e.on false = true) → Shape ops a0 val listed a → J listed w →
      wpOpIn F n P ops Q i (fun a' w' => a' = a.put o.dst (val i) ∧ J (listed.setIfInBounds i true) w') a w)
    (hend : ∀ (listed : Array Bool) (a : Act) (w : World), (∀ i, i < ops.size → listed.getD i false = true) → Shape ops a0 val listed a → J listed w → Q .normal a w) :
    ∀ (fuel : Nat) (listed : Array Bool) (a : Act) (w : World), listed.size = ops.size → left ops listed = fuel → Shape ops a0 val listed a → J listed w → wpAnyIn F n P md ops Q fuel listed a w := by
  have hfin : ∀ (listed : Array Bool), listed.size = ops.size → Region.ready md ops listed = [] → ∀ i, i < ops.size → listed.getD i false = true := by
    intro listed hsz hr
    have hall : ∀ k i, i < k → i < ops.size → listed.getD i false = true := by
      intro k
      induction k with
      | zero => intro i hi; omega
      | succ k ih =>
        intro i hi his
        rcases Nat.lt_or_ge i k with hlt | hge
        · exact ih i hlt his
        · obtain rfl : i = k := by omega
          apply Classical.byContradiction
          intro hn
          have hmem : i ∈ Region.ready md ops listed := by
            unfold Region.ready
            rw [List.mem_filter]
            refine ⟨List.mem_range.2 his, ?_⟩
            have hx : listed.getD i true = false := by
              simp only [Array.getD_eq_getD_getElem?] at hn ⊢
              rw [Array.getElem?_eq_getElem (by omega)] at hn ⊢
              simpa using hn
            rw [hx, Array.getElem?_eq_getElem his]
            simp only [Bool.not_false, Bool.true_and, Option.map_some, Option.getD_some, Array.all_eq_true]
            intro e he
            cases hb : Region.binds md ops[i].after[e] with
            | false => simp
            | true =>
              have h1 := hord i ops[i] _ (Array.getElem?_eq_getElem his) (Array.getElem_mem he) hb
              rw [ih _ h1 (by omega)]
              simp
          rw [hr] at hmem
          cases hmem
    exact fun i hi => hall (i + 1) i (by omega) hi
  intro fuel
  induction fuel with
  | zero =>
    intro listed a w hsz hl hS hJ
    have hall : ∀ i, i < ops.size → listed.getD i true = true := by
      intro i hi
      have := List.eq_nil_of_length_eq_zero hl
      rw [List.filter_eq_nil_iff] at this
      simpa using this i (List.mem_range.2 hi)
    have hr : Region.ready md ops listed = [] := by
      unfold Region.ready
      rw [List.filter_eq_nil_iff]
      intro i hi
      rw [hall i (List.mem_range.1 hi)]
      simp
    exact ⟨hr, hend listed a w (hfin listed hsz hr) hS hJ⟩
  | succ fuel ih =>
    intro listed a w hsz hl hS hJ
    refine ⟨fun hr => hend listed a w (hfin listed hsz hr) hS hJ, fun i hi => ?_⟩
    unfold Region.ready at hi
    rw [List.mem_filter, List.mem_range] at hi
    obtain ⟨his, hcond⟩ := hi
    rw [Array.getElem?_eq_getElem his] at hcond
    simp only [Option.map_some, Option.getD_some, Bool.and_eq_true, Bool.not_eq_true'] at hcond
    obtain ⟨hu, haf⟩ := hcond
    have hu' : listed.getD i false = false := by
      simp only [Array.getD_eq_getD_getElem?] at hu ⊢
      rw [Array.getElem?_eq_getElem (by omega)] at hu ⊢
      simpa using hu
    have ho : ops[i]? = some ops[i] := Array.getElem?_eq_getElem his
    have hlt : left ops (listed.setIfInBounds i true) + 1 = left ops listed := by
      unfold left
      have key : ∀ (l : List Nat), l.Nodup → i ∈ l → ((l.filter fun j => !(listed.setIfInBounds i true).getD j true).length + 1 = (l.filter fun j => !listed.getD j true).length) ∧ True := by
        intro l hn hm
        induction l with
        | nil => cases hm
        | cons y l ihl =>
          have hno : ∀ (l' : List Nat), i ∉ l' → (l'.filter fun j => !(listed.setIfInBounds i true).getD j true) = (l'.filter fun j => !listed.getD j true) := by
            intro l' hni
            apply List.filter_congr
            intro j hj
            have hne : i ≠ j := fun e => hni (by rw [e]; exact hj)
            rw [getD_set _ _ _ _ (by omega), if_neg hne]
          rcases List.mem_cons.1 hm with rfl | hm'
          · have hni : i ∉ l := (List.nodup_cons.1 hn).1
            refine ⟨?_, trivial⟩
            rw [List.filter_cons, List.filter_cons, hno l hni, getD_set _ _ _ _ (by omega), hu]
            simp
          · have hyi : i ≠ y := fun e => (List.nodup_cons.1 hn).1 (e ▸ hm')
            have h3 := (ihl (List.nodup_cons.1 hn).2 hm').1
            refine ⟨?_, trivial⟩
            rw [List.filter_cons, List.filter_cons, getD_set _ _ _ _ (by omega), if_neg hyi]
            by_cases hy : listed.getD y true = true
            · simp [hy]; simpa using h3
            · simp [hy]; simpa using h3
      exact (key _ List.nodup_range (List.mem_range.2 his)).1
    refine wpOpIn_mono' (fun a' w' h' => ?_) (hstep i ops[i] listed a w ho hsz hu' (fun e he hb => ?_) hS hJ)
    · obtain ⟨rfl, hJ'⟩ := h'
      exact ih _ _ _ (by simp [hsz]) (by omega) (hS.put ho (by omega) hdst) hJ'
    · rw [Array.all_eq_true'] at haf
      have := haf e he
      rw [hb] at this
      simpa using this

/-- An operation that is wanted, or has no guard; one that its guard leaves out. -/
theorem opG_plain {i : Nat} {o : Oper} {a : Act} {w : World} {K : Act → World → Prop} (ho : ops[i]? = some o) (hg : o.guard = none) (h : o.wpIn F n P a w K Q) : wpOpIn F n P ops Q i K a w := by
  unfold wpOpIn
  rw [ho]
  have hw : Region.wanted o (yielded ops a.tmps) = true := by simp [Region.wanted, hg]
  simp only [hw, if_true]
  exact h
theorem opG_want {i j : Nat} {b : Bool} {o o' : Oper} {d : Tmp} {a : Act} {w : World} {K : Act → World → Prop} (ho : ops[i]? = some o) (hg : o.guard = some (j, b)) (hj : ops[j]? = some o') (hd : o'.dst = some d) (hv : a.tmps[d]? = some (.bool b)) (h : o.wpIn F n P a w K Q) : wpOpIn F n P ops Q i K a w := by
  unfold wpOpIn
  rw [ho]
  have hw : Region.wanted o (yielded ops a.tmps) = true := by simp [Region.wanted, hg, yielded, hj, hd, hv]
  simp only [hw, if_true]
  exact h
theorem opG_out {i j : Nat} {b : Bool} {o o' : Oper} {d : Tmp} {a : Act} {w : World} {K : Act → World → Prop} (ho : ops[i]? = some o) (hg : o.guard = some (j, b)) (hj : ops[j]? = some o') (hd : o'.dst = some d) (hv : a.tmps[d]? = some (.bool !b)) (hab : ∀ f, o.about P w a.eval = some f → F.fn f) (h : K (a.put o.dst undef) w) : wpOpIn F n P ops Q i K a w := by
  unfold wpOpIn
  rw [ho]
  have hw : Region.wanted o (yielded ops a.tmps) = false := by simp [Region.wanted, hg, yielded, hj, hd, hv]
  simp only [hw, Bool.false_eq_true, if_false]
  exact ⟨hab, h⟩
/-- THE LAW. -/
theorem wpIn_region_shapeG {id : Nat} {a : Act} {w : World} (hm : P.follows .mixedOrders = true) (hp : guardOps ops = true) (val : Nat → Value) (b : Act) (hb : finAct ops a val ops.size = b) (J : Array Bool → World → Prop) (h0 : J (Array.replicate ops.size false) w.drew)
    (hstep : ∀ (i : Nat) (o : Oper) (listed : Array Bool) (a' : Act) (w' : World), ops[i]? = some o → listed.size = ops.size → listed.getD i false = false → (∀ e ∈ o.after, Region.binds .any e = true → listed.getD e.on false = true) → Shape ops a val listed a' → J listed w' →
      wpOpIn F n P ops Q i (fun a'' w'' => a'' = a'.put o.dst (val i) ∧ J (listed.setIfInBounds i true) w'') a' w')
    (hend : ∀ (listed : Array Bool) (w' : World), (∀ i, i < ops.size → listed.getD i false = true) → J listed w' → Q .normal b w') : (Code.region id ops true).wpIn F n P Q a w := by
  refine wpIn_region_any hm ?_
  have hall : ∀ j d, (Array.replicate ops.size false).getD j d = if j < ops.size then false else d := by
    intro j d
    simp only [Array.getD_eq_getD_getElem?, Array.getElem?_replicate]
    split <;> rfl
  obtain ⟨hord, hdst⟩ := guardOps_spec hp
  refine wpAnyIn_shapeG a val J hord hdst hstep (fun listed a' w' hl hS hJ => by rw [hS.final hl hdst, hb]; exact hend listed w' hl hJ) ops.size _ a _ (by simp) ?_ ⟨rfl, rfl, fun _ _ => rfl, fun j o d hj _ _ hl => ?_⟩ h0
  · unfold left
    rw [List.filter_eq_self.2 (fun i hi => by rw [hall, if_pos (List.mem_range.1 hi)]; rfl), List.length_range]
  · rw [hall] at hl; split at hl <;> cases hl
end
end Go.Proofs.YteclpoooggcdoaaGreatDoor
/- A region that draws its order within a fence: the values are chosen as they come; what is said of them and of the world is kept step by step. Nothing of the program stands here. -/
namespace Go.Proofs.YteclpoooggcdoaaGreatDoor
open Go
section
variable {F : Fence} {n : Nat} {P : Program} {ops : Array Oper} {Q : Exit → Act → World → Prop} {md : Region.Mode}

/-- Each operation that may come up keeps what is said of frame and world. -/
theorem wpAnyIn_inv (J : Array Bool → Act → World → Prop)
    (hg : ∀ (i : Nat) (o : Oper), ops[i]? = some o → o.guard = none)
    (hord : ∀ (i : Nat) (o : Oper) (e : Edge), ops[i]? = some o → e ∈ o.after → Region.binds md e = true → e.on < i)
    (hstep : ∀ (i : Nat) (o : Oper) (listed : Array Bool) (a : Act) (w : World), ops[i]? = some o → listed.size = ops.size → listed.getD i false = false → (∀ e ∈ o.after, Region.binds md e = true → listed.getD e.on false = true) → J listed a w →
      o.wpIn F n P a w (J (listed.setIfInBounds i true)) Q)
    (hend : ∀ (listed : Array Bool) (a : Act) (w : World), (∀ i, i < ops.size → listed.getD i false = true) → J listed a w → Q .normal a w) :
    ∀ (fuel : Nat) (listed : Array Bool) (a : Act) (w : World), listed.size = ops.size → left ops listed = fuel → J listed a w → wpAnyIn F n P md ops Q fuel listed a w := by
  have hfin : ∀ (listed : Array Bool), listed.size = ops.size → Region.ready md ops listed = [] → ∀ i, i < ops.size → listed.getD i false = true := by
    intro listed hsz hr
    have hall : ∀ k i, i < k → i < ops.size → listed.getD i false = true := by
      intro k
      induction k with
      | zero => intro i hi; omega
      | succ k ih =>
        intro i hi his
        rcases Nat.lt_or_ge i k with hlt | hge
        · exact ih i hlt his
        · obtain rfl : i = k := by omega
          apply Classical.byContradiction
          intro hn
          have hmem : i ∈ Region.ready md ops listed := by
            unfold Region.ready
            rw [List.mem_filter]
            refine ⟨List.mem_range.2 his, ?_⟩
            have hx : listed.getD i true = false := by
              simp only [Array.getD_eq_getD_getElem?] at hn ⊢
              rw [Array.getElem?_eq_getElem (by omega)] at hn ⊢
              simpa using hn
            rw [hx, Array.getElem?_eq_getElem his]
            simp only [Bool.not_false, Bool.true_and, Option.map_some, Option.getD_some, Array.all_eq_true]
            intro e he
            cases hb : Region.binds md ops[i].after[e] with
            | false => simp
            | true =>
              have h1 := hord i ops[i] _ (Array.getElem?_eq_getElem his) (Array.getElem_mem he) hb
              rw [ih _ h1 (by omega)]
              simp
          rw [hr] at hmem
          cases hmem
    exact fun i hi => hall (i + 1) i (by omega) hi
  intro fuel
  induction fuel with
  | zero =>
    intro listed a w hsz hl hJ
    have hall : ∀ i, i < ops.size → listed.getD i true = true := by
      intro i hi
      have := List.eq_nil_of_length_eq_zero hl
      rw [List.filter_eq_nil_iff] at this
      simpa using this i (List.mem_range.2 hi)
    have hr : Region.ready md ops listed = [] := by
      unfold Region.ready
      rw [List.filter_eq_nil_iff]
      intro i hi
      rw [hall i (List.mem_range.1 hi)]
      simp
    exact ⟨hr, hend listed a w (hfin listed hsz hr) hJ⟩
  | succ fuel ih =>
    intro listed a w hsz hl hJ
    refine ⟨fun hr => hend listed a w (hfin listed hsz hr) hJ, fun i hi => ?_⟩
    unfold Region.ready at hi
    rw [List.mem_filter, List.mem_range] at hi
    obtain ⟨his, hcond⟩ := hi
    rw [Array.getElem?_eq_getElem his] at hcond
    simp only [Option.map_some, Option.getD_some, Bool.and_eq_true, Bool.not_eq_true'] at hcond
    obtain ⟨hu, haf⟩ := hcond
    have hu' : listed.getD i false = false := by
      simp only [Array.getD_eq_getD_getElem?] at hu ⊢
      rw [Array.getElem?_eq_getElem (by omega)] at hu ⊢
      simpa using hu
    have ho : ops[i]? = some ops[i] := Array.getElem?_eq_getElem his
    have hlt : left ops (listed.setIfInBounds i true) + 1 = left ops listed := by
      unfold left
      have key : ∀ (l : List Nat), l.Nodup → i ∈ l → ((l.filter fun j => !(listed.setIfInBounds i true).getD j true).length + 1 = (l.filter fun j => !listed.getD j true).length) ∧ True := by
        intro l hn hm
        induction l with
        | nil => cases hm
        | cons y l ihl =>
          have hno : ∀ (l' : List Nat), i ∉ l' → (l'.filter fun j => !(listed.setIfInBounds i true).getD j true) = (l'.filter fun j => !listed.getD j true) := by
            intro l' hni
            apply List.filter_congr
            intro j hj
            have hne : i ≠ j := fun e => hni (by rw [e]; exact hj)
            rw [getD_set _ _ _ _ (by omega), if_neg hne]
          rcases List.mem_cons.1 hm with rfl | hm'
          · have hni : i ∉ l := (List.nodup_cons.1 hn).1
            refine ⟨?_, trivial⟩
            rw [List.filter_cons, List.filter_cons, hno l hni, getD_set _ _ _ _ (by omega), hu]
            simp
          · have hyi : i ≠ y := fun e => (List.nodup_cons.1 hn).1 (e ▸ hm')
            have h3 := (ihl (List.nodup_cons.1 hn).2 hm').1
            refine ⟨?_, trivial⟩
            rw [List.filter_cons, List.filter_cons, getD_set _ _ _ _ (by omega), if_neg hyi]
            by_cases hy : listed.getD y true = true
            · simp [hy]; simpa using h3
            · simp [hy]; simpa using h3
      exact (key _ List.nodup_range (List.mem_range.2 his)).1
    unfold wpOpIn
    rw [ho]
    have hw : Region.wanted ops[i] (yielded ops a.tmps) = true := by simp [Region.wanted, hg i _ ho]
    simp only [hw, if_true]
    refine Oper.wpIn_mono (fun a' w' h' => ?_) (hstep i ops[i] listed a w ho hsz hu' (fun e he hb => ?_) hJ)
    · exact ih _ _ _ (by simp [hsz]) (by omega) h'
    · rw [Array.all_eq_true'] at haf
      have := haf e he
      rw [hb] at this
      simpa using this

/-- THE LAW: J speaks of what is listed, of the values of what is listed, and of the world. -/
theorem wpIn_region_vals {id : Nat} {a : Act} {w : World} (hm : P.follows .mixedOrders = true) (hp : plainOps ops = true) (J : Array Bool → (Nat → Value) → World → Prop) (h0 : ∀ val, J (Array.replicate ops.size false) val w.drew)
    (hstep : ∀ (i : Nat) (o : Oper) (listed : Array Bool) (a' : Act) (w' : World) (val : Nat → Value), ops[i]? = some o → listed.size = ops.size → listed.getD i false = false → (∀ e ∈ o.after, Region.binds .any e = true → listed.getD e.on false = true) → Shape ops a val listed a' → J listed val w' →
      o.wpIn F n P a' w' (fun a'' w'' => ∃ v, a'' = a'.put o.dst v ∧ J (listed.setIfInBounds i true) (fun j => if j = i then v else val j) w'') Q)
    (hend : ∀ (listed : Array Bool) (w' : World) (val : Nat → Value), (∀ i, i < ops.size → listed.getD i false = true) → J listed val w' → Q .normal (finAct ops a val ops.size) w') : (Code.region id ops true).wpIn F n P Q a w := by
  refine wpIn_region_any hm ?_
  have hall : ∀ j d, (Array.replicate ops.size false).getD j d = if j < ops.size then false else d := by
    intro j d
    simp only [Array.getD_eq_getD_getElem?, Array.getElem?_replicate]
    split <;> rfl
  obtain ⟨hg, hord, hdst⟩ := plainOps_spec hp
  refine wpAnyIn_inv (fun listed a' w' => listed.size = ops.size ∧ ∃ val, Shape ops a val listed a' ∧ J listed val w') hg hord (fun i o listed a' w' ho hsz hu haf hJ => ?_) (fun listed a' w' hl hJ => ?_) ops.size _ a _ (by simp) ?_ ⟨by simp, fun _ => undef, ⟨rfl, rfl, fun _ _ => rfl, fun j o d hj _ _ hl => ?_⟩, h0 _⟩
  · obtain ⟨_, val, hS, hJ⟩ := hJ
    refine Oper.wpIn_mono (fun a'' w'' h' => ?_) (hstep i o listed a' w' val ho hsz hu haf hS hJ)
    obtain ⟨v, rfl, h2⟩ := h'
    refine ⟨by simp [hsz], fun j => if j = i then v else val j, ?_, h2⟩
    have hS' : Shape ops a (fun j => if j = i then v else val j) listed a' := ⟨hS.size, hS.defers, hS.base, fun j o' d hj hd hlt hl => by
      have hne : j ≠ i := fun e => by rw [e, hu] at hl; cases hl
      rw [if_neg hne]
      exact hS.set j o' d hj hd hlt hl⟩
    have := hS'.put ho (by have := (Array.getElem?_eq_some_iff.1 ho).1; omega) hdst
    rw [if_pos rfl] at this
    exact this
  · obtain ⟨_, val, hS, hJ⟩ := hJ
    rw [hS.final hl hdst]
    exact hend listed w' val hl hJ
  · unfold left
    rw [List.filter_eq_self.2 (fun i hi => by rw [hall, if_pos (List.mem_range.1 hi)]; rfl), List.length_range]
  · rw [hall] at hl; split at hl <;> cases hl
theorem rep_getD (n j : Nat) : (Array.replicate n false).getD j false = false := by
  simp only [Array.getD_eq_getD_getElem?, Array.getElem?_replicate]
  split <;> rfl
theorem lset {l : Array Bool} {n i j : Nat} (hs : l.size = n) (hi : i < n) : (l.setIfInBounds i true).getD j false = if i = j then true else l.getD j false := getD_set l i j false (by omega)
theorem op_valv {o : Oper} {a : Act} {w : World} {K : Value → World → Prop} (v : Value) (w' : World) (hab : ∀ f, o.about P w a.eval = some f → F.fn f) (hrun : (o.semAt F.round a.eval).run P w = .ok (.value v) w') (hk : K v w') : o.wpIn F n P a w (fun a'' w'' => ∃ v, a'' = a.put o.dst v ∧ K v w'') Q := by
  refine ⟨hab, ?_⟩
  rw [hrun]
  exact ⟨v, rfl, hk⟩
theorem op_skipv {o : Oper} {a : Act} {w : World} {K : Value → World → Prop} (w' : World) (hab : ∀ f, o.about P w a.eval = some f → F.fn f) (hrun : (o.semAt F.round a.eval).run P w = .ok .skip w') (hk : K undef w') : o.wpIn F n P a w (fun a'' w'' => ∃ v, a'' = a.put o.dst v ∧ K v w'') Q := by
  refine ⟨hab, ?_⟩
  rw [hrun]
  exact ⟨undef, rfl, hk⟩
theorem op_callv {o : Oper} {a : Act} {w : World} {K : Value → World → Prop} (f : FuncId) (args : Array Value) (hab : ∀ f, o.about P w a.eval = some f → F.fn f) (hrun : (o.semAt F.round a.eval).run P w = .ok (.enter f args) w) (hn : 1 ≤ n) (hc : CallsIn F (n - 1) P f args w (fun e w' => ∃ v, e = .returned v ∧ K v w')) : o.wpIn F n P a w (fun a'' w'' => ∃ v, a'' = a.put o.dst v ∧ K v w'') Q := by
  refine ⟨hab, ?_⟩
  rw [hrun, Oper.uponIn_enter]
  refine ⟨fun _ => hn, hc.mono ?_⟩
  rintro e w' ⟨v, rfl, hk⟩
  exact ⟨v, rfl, hk⟩
end
end Go.Proofs.YteclpoooggcdoaaGreatDoor
/- A region that draws its order within a fence: some operations, each behind the one ahead, change the world; all others read. Nothing of the program stands here. -/
namespace Go.Proofs.YteclpoooggcdoaaGreatDoor
open Go
/-- What must come ahead of operation i. -/
def backOf (ops : Array Oper) : Nat → Nat → List Nat
  | 0, _ => []
  | f + 1, i => match ops[i]? with
    | none => []
    | some o => o.after.toList.flatMap fun e => if Region.binds .any e then e.on :: backOf ops f e.on else []
theorem back_listed {ops : Array Oper} {listed : Array Bool} (hc : Closed .any ops listed) : ∀ (f i : Nat) (o : Oper), ops[i]? = some o → (∀ e ∈ o.after, Region.binds .any e = true → listed.getD e.on false = true) → ∀ j ∈ backOf ops f i, listed.getD j false = true
  | 0, _, _, _, _, j, hj => by cases hj
  | f + 1, i, o, ho, haf, j, hj => by
    unfold backOf at hj
    rw [ho] at hj
    obtain ⟨e, he, hje⟩ := List.mem_flatMap.1 hj
    split at hje
    · rename_i hb
      have he' : e ∈ o.after := Array.mem_toList_iff.1 he
      have h1 := haf e he' hb
      rcases List.mem_cons.1 hje with rfl | h2
      · exact h1
      · cases ho2 : ops[e.on]? with
        | none =>
          cases f with
          | zero => cases h2
          | succ f => unfold backOf at h2; rw [ho2] at h2; cases h2
        | some o2 => exact back_listed hc f e.on o2 ho2 (hc e.on o2 ho2 h1) j h2
    · cases hje
def chainOk (ops : Array Oper) (chain : List Nat) : Bool := (chain.zip chain.tail).all fun p => (backOf ops ops.size p.2).contains p.1
section
variable {F : Fence} {n : Nat} {P : Program} {ops : Array Oper} {Q : Exit → Act → World → Prop}
theorem wpIn_region_chain {id : Nat} {a : Act} {w : World} (hm : P.follows .mixedOrders = true) (hp : plainOps ops = true) (chain : List Nat) (hck : chainOk ops chain = true) (hnd : chain.Nodup) (hsz : ∀ i ∈ chain, i < ops.size)
    (Ph : Nat → Value → Prop) (Ps : Nat → (Nat → Value) → World → Prop) (h0 : ∀ val, Ps 0 val w.drew)
    (hPs : ∀ k val val' W, (∀ m i, m < k → chain[m]? = some i → val i = val' i) → Ps k val W → Ps k val' W)
    (hplain : ∀ (i : Nat) (o : Oper) (listed : Array Bool) (a' : Act) (W : World) (val : Nat → Value) (k : Nat), ops[i]? = some o → i ∉ chain → (∀ e ∈ o.after, Region.binds .any e = true → listed.getD e.on false = true) → Shape ops a val listed a' → (∀ j, listed.getD j false = true → j ∉ chain → Ph j (val j)) →
      (∀ m j, chain[m]? = some j → (backOf ops ops.size j).contains i = true → k ≤ m) → (∀ m j, chain[m]? = some j → listed.getD j false = true → m < k) → Ps k val W →
      (∀ f, o.about P W a'.eval = some f → F.fn f) ∧ ∃ r v, (o.semAt F.round a'.eval).run P W = .ok r W ∧ (r = .value v ∨ (r = .skip ∧ v = undef)) ∧ Ph i v)
    (hchain : ∀ (m i : Nat) (o : Oper) (listed : Array Bool) (a' : Act) (W : World) (val : Nat → Value), ops[i]? = some o → chain[m]? = some i → (∀ e ∈ o.after, Region.binds .any e = true → listed.getD e.on false = true) → Shape ops a val listed a' → (∀ j, listed.getD j false = true → j ∉ chain → Ph j (val j)) → Ps m val W →
      o.wpIn F n P a' W (fun a'' W'' => ∃ v, a'' = a'.put o.dst v ∧ Ps (m + 1) (fun j => if j = i then v else val j) W'') Q)
    (hend : ∀ (W : World) (val : Nat → Value), Ps chain.length val W → (∀ j, j < ops.size → j ∉ chain → Ph j (val j)) → Q .normal (finAct ops a val ops.size) W) : (Code.region id ops true).wpIn F n P Q a w := by
  have hpre : ∀ m j i, chain[m]? = some j → chain[m + 1]? = some i → j ∈ backOf ops ops.size i := fun m j i h1 h2 => by
    unfold chainOk at hck
    rw [List.all_eq_true] at hck
    have hz : (chain.zip chain.tail)[m]? = some (j, i) := by
      rw [List.getElem?_zip_eq_some]
      exact ⟨h1, by rw [List.getElem?_tail]; exact h2⟩
    have := hck (j, i) (List.mem_of_getElem? hz)
    exact List.contains_iff_mem.1 this
  refine wpIn_region_vals hm hp (fun listed val W => listed.size = ops.size ∧ Closed .any ops listed ∧ (∀ j, listed.getD j false = true → j ∉ chain → Ph j (val j)) ∧ ∃ k, k ≤ chain.length ∧ (∀ m j, chain[m]? = some j → (listed.getD j false = true ↔ m < k)) ∧ Ps k val W) (fun val => ⟨by simp, fun j o ho hl => absurd hl (by rw [rep_getD]; decide), fun j hl => absurd hl (by rw [rep_getD]; decide), 0, Nat.zero_le _, fun m j _ => ⟨fun h => absurd h (by rw [rep_getD]; decide), fun h => by omega⟩, h0 val⟩) (fun i o listed a' W val ho hs hu haf hS hJ => ?_) (fun listed W val hl hJ => ?_)
  · obtain ⟨_, hcl, hF, k, hk, hkl, hps⟩ := hJ
    have hi := (Array.getElem?_eq_some_iff.1 ho).1
    have hset : ∀ j, (listed.setIfInBounds i true).getD j false = if i = j then true else listed.getD j false := fun j => lset hs hi
    have hcl' : Closed .any ops (listed.setIfInBounds i true) := fun j o' ho' hlj e he hb => by
      rw [hset] at hlj ⊢
      by_cases e1 : i = j
      · subst e1
        rw [ho] at ho'
        cases ho'
        split
        · rfl
        · exact haf e he hb
      · rw [if_neg e1] at hlj
        split
        · rfl
        · exact hcl j o' ho' hlj e he hb
    by_cases hc : i ∈ chain
    · obtain ⟨m, hm2⟩ := List.mem_iff_getElem?.1 hc
      have hkm : k = m := by
        have h1 : ¬ m < k := fun h => by rw [(hkl m i hm2).2 h] at hu; cases hu
        cases m with
        | zero => omega
        | succ m =>
          obtain ⟨j, hj⟩ : ∃ j, chain[m]? = some j := ⟨_, List.getElem?_eq_getElem (by have := (List.getElem?_eq_some_iff.1 hm2).1; omega)⟩
          have := (hkl m j hj).1 (back_listed hcl _ i o ho haf j (hpre m j i hj hm2))
          omega
      subst hkm
      refine Oper.wpIn_mono (fun a'' W'' h' => ?_) (hchain k i o listed a' W val ho hm2 haf hS hF hps)
      obtain ⟨v, rfl, hv⟩ := h'
      refine ⟨v, rfl, by simp [hs], hcl', fun j hlj hjc => ?_, k + 1, by have := (List.getElem?_eq_some_iff.1 hm2).1; omega, fun m j hmj => ?_, hv⟩
      · have hne : i ≠ j := fun e => hjc (e ▸ hc)
        rw [hset, if_neg hne] at hlj
        simp only [if_neg (Ne.symm hne)]
        exact hF j hlj hjc
      · rw [hset]
        by_cases e : i = j
        · subst e
          rw [if_pos rfl]
          have hml := (List.getElem?_eq_some_iff.1 hmj).1
          have : m = k := (List.getElem?_inj hml hnd).1 (hmj.trans hm2.symm)
          exact ⟨fun _ => by omega, fun _ => rfl⟩
        · rw [if_neg e, hkl m j hmj]
          constructor
          · intro h; omega
          · intro h
            rcases Nat.lt_or_ge m k with h1 | h1
            · exact h1
            · obtain rfl : m = k := by omega
              rw [hmj] at hm2
              cases hm2
              exact absurd rfl e
    · obtain ⟨h1, r, v, h2, h3, h4⟩ := hplain i o listed a' W val k ho hc haf hS hF (fun m j hmj hbk => by
        rcases Nat.lt_or_ge m k with h | h
        · have hlj := (hkl m j hmj).2 h
          obtain ⟨oj, hoj⟩ : ∃ oj, ops[j]? = some oj := ⟨_, Array.getElem?_eq_getElem (hsz j (List.mem_of_getElem? hmj))⟩
          have := back_listed hcl _ j oj hoj (hcl j oj hoj hlj) i (List.contains_iff_mem.1 hbk)
          rw [this] at hu
          cases hu
        · exact h) (fun m j hmj hlj => (hkl m j hmj).1 hlj) hps
      have hnew : (listed.setIfInBounds i true).size = ops.size ∧ Closed .any ops (listed.setIfInBounds i true) ∧ (∀ j, (listed.setIfInBounds i true).getD j false = true → j ∉ chain → Ph j ((fun j => if j = i then v else val j) j)) ∧ ∃ k, k ≤ chain.length ∧ (∀ m j, chain[m]? = some j → ((listed.setIfInBounds i true).getD j false = true ↔ m < k)) ∧ Ps k (fun j => if j = i then v else val j) W := by
        refine ⟨by simp [hs], hcl', fun j hlj hjc => ?_, k, hk, fun m j hmj => ?_, hPs k val _ W (fun m j _ hmj => ?_) hps⟩
        · by_cases e : j = i
          · subst e
            simp only [if_pos]
            exact h4
          · simp only [if_neg e]
            rw [hset, if_neg (Ne.symm e)] at hlj
            exact hF j hlj hjc
        · have hne : i ≠ j := fun e => hc (e ▸ List.mem_of_getElem? hmj)
          rw [hset, if_neg hne]
          exact hkl m j hmj
        · have hne : j ≠ i := fun e => hc (e ▸ List.mem_of_getElem? hmj)
          simp only [if_neg hne]
      rcases h3 with rfl | ⟨rfl, rfl⟩
      · exact op_valv v W h1 h2 hnew
      · exact op_skipv W h1 h2 hnew
  · obtain ⟨_, _, hF, k, hk, hkl, hps⟩ := hJ
    have hke : k = chain.length := by
      rcases Nat.lt_or_ge k chain.length with h | h
      · obtain ⟨j, hj⟩ : ∃ j, chain[k]? = some j := ⟨_, List.getElem?_eq_getElem h⟩
        have := (hkl k j hj).1 (hl j (hsz j (List.mem_of_getElem? hj)))
        omega
      · omega
    subst hke
    exact hend W val hps (fun j hj hjc => hF j (hl j hj) hjc)
end
end Go.Proofs.YteclpoooggcdoaaGreatDoor
/- As wpIn_region_chain (XNqChain), where what does not change the world may be a call. Nothing of the program stands here. -/
namespace Go.Proofs.YteclpoooggcdoaaGreatDoor
open Go
section
variable {F : Fence} {n : Nat} {P : Program} {ops : Array Oper} {Q : Exit → Act → World → Prop}
theorem wpIn_region_chainC {id : Nat} {a : Act} {w : World} (hm : P.follows .mixedOrders = true) (hp : plainOps ops = true) (chain : List Nat) (hck : chainOk ops chain = true) (hnd : chain.Nodup) (hsz : ∀ i ∈ chain, i < ops.size)
    (Ph : Nat → Value → Prop) (Ps : Nat → (Nat → Value) → World → Prop) (h0 : ∀ val, Ps 0 val w.drew)
    (hPs : ∀ k val val' W, (∀ m i, m < k → chain[m]? = some i → val i = val' i) → Ps k val W → Ps k val' W)
    (hplain : ∀ (i : Nat) (o : Oper) (listed : Array Bool) (a' : Act) (W : World) (val : Nat → Value) (k : Nat), ops[i]? = some o → i ∉ chain → (∀ e ∈ o.after, Region.binds .any e = true → listed.getD e.on false = true) → Shape ops a val listed a' → (∀ j, listed.getD j false = true → j ∉ chain → Ph j (val j)) →
      (∀ m j, chain[m]? = some j → (backOf ops ops.size j).contains i = true → k ≤ m) → (∀ m j, chain[m]? = some j → listed.getD j false = true → m < k) → Ps k val W →
      o.wpIn F n P a' W (fun a'' W'' => ∃ v, a'' = a'.put o.dst v ∧ W'' = W ∧ Ph i v) Q)
    (hchain : ∀ (m i : Nat) (o : Oper) (listed : Array Bool) (a' : Act) (W : World) (val : Nat → Value), ops[i]? = some o → chain[m]? = some i → (∀ e ∈ o.after, Region.binds .any e = true → listed.getD e.on false = true) → Shape ops a val listed a' → (∀ j, listed.getD j false = true → j ∉ chain → Ph j (val j)) → Ps m val W →
      o.wpIn F n P a' W (fun a'' W'' => ∃ v, a'' = a'.put o.dst v ∧ Ps (m + 1) (fun j => if j = i then v else val j) W'') Q)
    (hend : ∀ (W : World) (val : Nat → Value), Ps chain.length val W → (∀ j, j < ops.size → j ∉ chain → Ph j (val j)) → Q .normal (finAct ops a val ops.size) W) : (Code.region id ops true).wpIn F n P Q a w := by
  have hpre : ∀ m j i, chain[m]? = some j → chain[m + 1]? = some i → j ∈ backOf ops ops.size i := fun m j i h1 h2 => by
    unfold chainOk at hck
    rw [List.all_eq_true] at hck
    have hz : (chain.zip chain.tail)[m]? = some (j, i) := by
      rw [List.getElem?_zip_eq_some]
      exact ⟨h1, by rw [List.getElem?_tail]; exact h2⟩
    have := hck (j, i) (List.mem_of_getElem? hz)
    exact List.contains_iff_mem.1 this
  refine wpIn_region_vals hm hp (fun listed val W => listed.size = ops.size ∧ Closed .any ops listed ∧ (∀ j, listed.getD j false = true → j ∉ chain → Ph j (val j)) ∧ ∃ k, k ≤ chain.length ∧ (∀ m j, chain[m]? = some j → (listed.getD j false = true ↔ m < k)) ∧ Ps k val W) (fun val => ⟨by simp, fun j o ho hl => absurd hl (by rw [rep_getD]; decide), fun j hl => absurd hl (by rw [rep_getD]; decide), 0, Nat.zero_le _, fun m j _ => ⟨fun h => absurd h (by rw [rep_getD]; decide), fun h => by omega⟩, h0 val⟩) (fun i o listed a' W val ho hs hu haf hS hJ => ?_) (fun listed W val hl hJ => ?_)
  · obtain ⟨_, hcl, hF, k, hk, hkl, hps⟩ := hJ
    have hi := (Array.getElem?_eq_some_iff.1 ho).1
    have hset : ∀ j, (listed.setIfInBounds i true).getD j false = if i = j then true else listed.getD j false := fun j => lset hs hi
    have hcl' : Closed .any ops (listed.setIfInBounds i true) := fun j o' ho' hlj e he hb => by
      rw [hset] at hlj ⊢
      by_cases e1 : i = j
      · subst e1
        rw [ho] at ho'
        cases ho'
        split
        · rfl
        · exact haf e he hb
      · rw [if_neg e1] at hlj
        split
        · rfl
        · exact hcl j o' ho' hlj e he hb
    by_cases hc : i ∈ chain
    · obtain ⟨m, hm2⟩ := List.mem_iff_getElem?.1 hc
      have hkm : k = m := by
        have h1 : ¬ m < k := fun h => by rw [(hkl m i hm2).2 h] at hu; cases hu
        cases m with
        | zero => omega
        | succ m =>
          obtain ⟨j, hj⟩ : ∃ j, chain[m]? = some j := ⟨_, List.getElem?_eq_getElem (by have := (List.getElem?_eq_some_iff.1 hm2).1; omega)⟩
          have := (hkl m j hj).1 (back_listed hcl _ i o ho haf j (hpre m j i hj hm2))
          omega
      subst hkm
      refine Oper.wpIn_mono (fun a'' W'' h' => ?_) (hchain k i o listed a' W val ho hm2 haf hS hF hps)
      obtain ⟨v, rfl, hv⟩ := h'
      refine ⟨v, rfl, by simp [hs], hcl', fun j hlj hjc => ?_, k + 1, by have := (List.getElem?_eq_some_iff.1 hm2).1; omega, fun m j hmj => ?_, hv⟩
      · have hne : i ≠ j := fun e => hjc (e ▸ hc)
        rw [hset, if_neg hne] at hlj
        simp only [if_neg (Ne.symm hne)]
        exact hF j hlj hjc
      · rw [hset]
        by_cases e : i = j
        · subst e
          rw [if_pos rfl]
          have hml := (List.getElem?_eq_some_iff.1 hmj).1
          have : m = k := (List.getElem?_inj hml hnd).1 (hmj.trans hm2.symm)
          exact ⟨fun _ => by omega, fun _ => rfl⟩
        · rw [if_neg e, hkl m j hmj]
          constructor
          · intro h; omega
          · intro h
            rcases Nat.lt_or_ge m k with h1 | h1
            · exact h1
            · obtain rfl : m = k := by omega
              rw [hmj] at hm2
              cases hm2
              exact absurd rfl e
    · refine Oper.wpIn_mono (fun a'' W'' h' => ?_) (hplain i o listed a' W val k ho hc haf hS hF (fun m j hmj hbk => by
        rcases Nat.lt_or_ge m k with h | h
        · have hlj := (hkl m j hmj).2 h
          obtain ⟨oj, hoj⟩ : ∃ oj, ops[j]? = some oj := ⟨_, Array.getElem?_eq_getElem (hsz j (List.mem_of_getElem? hmj))⟩
          have := back_listed hcl _ j oj hoj (hcl j oj hoj hlj) i (List.contains_iff_mem.1 hbk)
          rw [this] at hu
          cases hu
        · exact h) (fun m j hmj hlj => (hkl m j hmj).1 hlj) hps)
      obtain ⟨v, rfl, rfl, h4⟩ := h'
      have hnew : (listed.setIfInBounds i true).size = ops.size ∧ Closed .any ops (listed.setIfInBounds i true) ∧ (∀ j, (listed.setIfInBounds i true).getD j false = true → j ∉ chain → Ph j ((fun j => if j = i then v else val j) j)) ∧ ∃ k, k ≤ chain.length ∧ (∀ m j, chain[m]? = some j → ((listed.setIfInBounds i true).getD j false = true ↔ m < k)) ∧ Ps k (fun j => if j = i then v else val j) W'' := by
        refine ⟨by simp [hs], hcl', fun j hlj hjc => ?_, k, hk, fun m j hmj => ?_, hPs k val _ W'' (fun m j _ hmj => ?_) hps⟩
        · by_cases e : j = i
          · subst e
            simp only [if_pos]
            exact h4
          · simp only [if_neg e]
            rw [hset, if_neg (Ne.symm e)] at hlj
            exact hF j hlj hjc
        · have hne : i ≠ j := fun e => hc (e ▸ List.mem_of_getElem? hmj)
          rw [hset, if_neg hne]
          exact hkl m j hmj
        · have hne : j ≠ i := fun e => hc (e ▸ List.mem_of_getElem? hmj)
          simp only [if_neg hne]
      exact ⟨v, rfl, hnew⟩
  · obtain ⟨_, _, hF, k, hk, hkl, hps⟩ := hJ
    have hke : k = chain.length := by
      rcases Nat.lt_or_ge k chain.length with h | h
      · obtain ⟨j, hj⟩ : ∃ j, chain[k]? = some j := ⟨_, List.getElem?_eq_getElem h⟩
        have := (hkl k j hj).1 (hl j (hsz j (List.mem_of_getElem? hj)))
        omega
      · omega
    subst hke
    exact hend W val hps (fun j hj hjc => hF j (hl j hj) hjc)
end
end Go.Proofs.YteclpoooggcdoaaGreatDoor
