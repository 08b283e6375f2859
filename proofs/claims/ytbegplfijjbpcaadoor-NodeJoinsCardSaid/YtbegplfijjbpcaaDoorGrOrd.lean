/- The law on a range over a function, to a body that knows which one comes next (by wip/gen/gr_dep.py's session: XLxRng once more). Nothing of the program stands here. -/
import Derived.Test.YtbegplfijjbpcaaDoorLxRng
namespace Go.Proofs.YtbegplfijjbpcaaDoor
open Go Go.RowKit
/-- AN ITERATOR's WORD, to loops that speak of blocks of other types, wherever they lie. -/
def SeqStopsO {α : Type} (t : TypeId) (F : Fence) (n : Nat) (P : Program) (g : Nat) (lb : Array Value) (encs : α → Array Value) (Kp : World → World → Prop) (S Sp : List α → Prop) (Nx : List α → α → Prop) (w : World) : Prop :=
  ∀ (l : Nat) (J Jx : List α → World → Prop) (W : World), Below w.heap.size w W → AbT t W.heap.size J → AbT t W.heap.size Jx →
    (∀ pre x W1, J pre W1 → Nx pre x → W.heap.size ≤ W1.heap.size → YieldAt F (n - 1) P l (encs x) W1 fun e W' =>
      (e = .returned (.bool true) ∧ J (pre ++ [x]) W' ∧ Kp W1 W') ∨ (e = .returned (.bool false) ∧ Jx (pre ++ [x]) W')) →
    J [] W →
    CallsIn F n P g (#[.func (.yield l) #[] #[]] ++ lb) W fun e W' => (∃ v, e = .returned v) ∧ ((∃ xs, S xs ∧ J xs W') ∨ (∃ pre, Sp pre ∧ Jx pre W'))

section
variable {F : Fence} {n : Nat} {P : Program} {w : World}
theorem wpIn_rangeFunc_ownO {α : Type} {t : TypeId} {g : Operand} {ps : Array Tmp} {assign body : Code} {Q : Exit → Act → World → Prop} {a : Act} {w : World}
    (hro : F.round = none) (h1 : 1 ≤ n) {gf : Nat} {lb : Array Value} (hg : a.eval g = .func (.func gf) #[] lb) (hFg : F.fn gf) (eg : ∀ args w, (callFunc gf args).run P w = .ok (.enter gf args) w)
    {encs : α → Array Value} {Kp : World → World → Prop} {S Sp : List α → Prop} {Nx : List α → α → Prop} {w0 : World} (hseq : SeqStopsO t F (n - 1) P gf lb encs Kp S Sp Nx w0)
    (hKt : ∀ {A B C : World}, Kp A B → Kp B C → Kp A C) (hKb : ∀ (W : World) (l : Nat) (r r' : Loop), w.heap.size ≤ l → W.heap[l]? = some (.loop r) → Kp W (W.putObj l (.loop r'))) (hb0 : Below w0.heap.size w0 w) (hps : ∀ x, (encs x).size = ps.size)
    (I : List α → World → Prop) (Ix : Code → List α → World → Prop) (hI : AbT t w.heap.size I) (hIx : ∀ c, AbT t w.heap.size (Ix c))
    (hIp : ∀ (s : List α) (W : World) (l : Nat) (r r' : Loop), I s W → w.heap.size ≤ l → W.heap[l]? = some (.loop r) → I s (W.putObj l (.loop r')))
    (hIxp : ∀ (c : Code) (s : List α) (W : World) (l : Nat) (r r' : Loop), Ix c s W → w.heap.size ≤ l → W.heap[l]? = some (.loop r) → Ix c s (W.putObj l (.loop r'))) (h0 : I [] w) (Ax : α → Act → World → Prop) (hAx : ∀ x a', OwnFrom w.heap.size (fun (_ : Unit) W => Ax x a' W))
    (hassign : ∀ (l : Nat) (pre : List α) (x : α) (W : World) (K : Act → World → Prop), I pre W → w.heap.size ≤ W.heap.size → (∀ a' W', KeepsFrom w.heap.size W W' → Kp W W' → I pre W' → Ax x a' W' → K a' W') →
      assign.wpIn (F.inRound l) (n - 1 - 1) P (Exit.then K (fun _ _ _ => False)) { tmps := (ps.zip (encs x)).foldl (fun t (p, v) => t.setIfInBounds p v) a.tmps, defers := [] } W)
    (hbody : ∀ (l : Nat) (pre : List α) (x : α) (a' : Act) (W : World), w.heap.size ≤ l → (∃ r, W.heap[l]? = some (.loop r)) → I pre W → Ax x a' W → Nx pre x → body.wpIn (F.inRound l) (n - 1 - 1) P (ownPostG w.heap.size Kp I Ix (pre ++ [x]) W) a' W)
    (hdone : ∀ (D : Nat) (xs : List α) (W : World), w.heap.size ≤ D → S xs → I xs W → W.heap[D]? = some (.deferred (some [])) → Q .normal { a with defers := { target := .collected D, args := #[] } :: a.defers } W)
    (hstop : ∀ (D : Nat) (c : Code) (pre : List α) (W : World), w.heap.size ≤ D → Sp pre → Ix c pre W → W.heap[D]? = some (.deferred (some [])) → c.wpIn F n P Q { a with defers := { target := .collected D, args := #[] } :: a.defers } W) :
    (Code.rangeFunc g ps assign body).wpIn F n P Q a w := by
  refine wpIn_rangeFunc fun fn hfn => ?_
  rw [hro]
  obtain ⟨B, hB⟩ : ∃ B, B = w.heap.size := ⟨_, rfl⟩
  rw [← hB] at hI hIx hIp hIxp hAx hassign hbody hdone hstop hKb
  obtain ⟨rec, hrec⟩ : ∃ rec : LoopState → Option Code → Loop, rec = loopRec fn a.tmps ps assign body B := ⟨_, rfl⟩
  obtain ⟨W1, hW1⟩ : ∃ W1, W1 = (w.alloc (.deferred (some []))).alloc (.loop (rec .ready none)) := ⟨_, rfl⟩
  have hs1 : W1.heap.size = B + 2 := by rw [hW1, hB]; simp
  have hbB : Below B w W1 := by rw [hW1, hB]; exact ((Below.refl _ w).alloc (Nat.le_refl _) _).alloc (by simp) _
  have hbk : Books W1 B (rec .ready none) := by
    rw [hW1, hB]
    refine ⟨?_, (Below.heap_alloc _ _ _ (by simp)).trans (World.alloc_heap_new w _)⟩
    have := World.alloc_heap_new (w.alloc (.deferred (some []))) (.loop (rec .ready none))
    rwa [World.size_alloc] at this
  refine ⟨B + 1, [{ target := .collected B, args := #[] }], W1, { target := .fn (.func gf) lb, args := #[.func (.yield (B + 1)) #[] #[]] }, W1, gf, #[.func (.yield (B + 1)) #[] #[]] ++ lb, W1, ?_, ?_, ?_, ?_, fun _ => h1, ?_⟩
  · rw [hW1, hrec, hB]; exact run_enterLoop_outer _ _ _ _ _
  · simp only [resolve, hg]
    simp [go_sem]
  · intro f' hf'; simp [Target.leads] at hf'; subst hf'; exact hFg
  · simp [invoke, go_sem, eg]
  refine (hseq (B + 1) (fun pre W => (I pre W ∧ B + 2 ≤ W.heap.size) ∧ Books W B (rec .ready none)) (fun pre W => ∃ c, (Ix c pre W ∧ B + 2 ≤ W.heap.size) ∧ Books W B (rec .done (some c))) W1 (hb0.trans (hbB.mono (by rw [hB]; exact hb0.size))) ?_ ?_ ?_ ⟨⟨hI _ _ _ h0 ⟨hbB, fun k o ho _ => by rw [hW1]; exact ((Below.heap_alloc _ _ k (by rw [World.size_alloc]; have := (Array.getElem?_eq_some_iff.1 ho).1; omega)).trans (Below.heap_alloc w _ k (Array.getElem?_eq_some_iff.1 ho).1)).trans ho⟩, by omega⟩, hbk⟩).mono ?_
  · rintro s X Y ⟨⟨hi, hs⟩, hb⟩ hXY
    exact ⟨⟨hI _ _ _ hi ⟨hXY.1.mono (by omega), hXY.2⟩, Nat.le_trans hs hXY.1.size⟩, hb.below (hXY.1.mono (by omega))⟩
  · rintro s X Y ⟨c, ⟨hi, hs⟩, hb⟩ hXY
    exact ⟨c, ⟨hIx c _ _ _ hi ⟨hXY.1.mono (by omega), hXY.2⟩, Nat.le_trans hs hXY.1.size⟩, hb.below (hXY.1.mono (by omega))⟩
  · rintro pre x W ⟨⟨hi, hsW⟩, hbk⟩ hlen _
    have hy := run_yield (P := P) (args := encs x) hbk.1 (by rw [hrec]; exact hps x)
    rw [hrec] at hy
    refine ⟨fn, _, assign, body, hy, roundIn_of_wpIn hfn (hassign _ pre x W _ hi (by omega) ?_)⟩
    intro a' Wa hka hkpa hia hax
    have hba := hbk.keeps hka
    have hla := hba.1
    refine ⟨_, run_beginRound hla (by rw [hrec]; rfl), ?_⟩
    have hb2 := hba.put { rec .ready none with state := .busy }
    have hw2 : Kp Wa (Wa.putObj (B + 1) (.loop { rec .ready none with state := .busy })) := hKb _ _ _ _ (by omega) hla
    refine wpIn_mono (hbody _ pre x a' _ (by omega) ⟨_, hb2.1⟩ (hIp _ _ _ _ _ hia (by omega) hla) ((hAx x a').putObj (s := ()) _ hax (by omega) hla rfl) hlen) ?_
    have fin : ∀ (jump : Option Code) (W3 : World), KeepsFrom B (Wa.putObj (B + 1) (.loop { rec .ready none with state := .busy })) W3 →
        (Instr.endRound (B + 1) jump).run P W3 = .ok (.bool jump.isNone) (W3.putObj (B + 1) (.loop (rec (if jump.isNone then .ready else .done) jump))) ∧
        W3.heap[B + 1]? = some (.loop { rec .ready none with state := .busy }) ∧ B + 2 ≤ W3.heap.size ∧ Books (W3.putObj (B + 1) (.loop (rec (if jump.isNone then .ready else .done) jump))) B (rec (if jump.isNone then .ready else .done) jump) := fun jump W3 hk3 => by
      have hb3 := hb2.keeps hk3
      have hr := run_endRound (P := P) jump hb3.1
      have hlt := (Array.getElem?_eq_some_iff.1 hb3.1).1
      refine ⟨?_, hb3.1, by omega, hb3.put _⟩
      rw [hrec] at hr ⊢
      exact hr
    have hsz : ∀ (W3 : World) (o : Obj), (W3.putObj (B + 1) o).heap.size = W3.heap.size := fun W3 o => by simp [World.putObj]
    rintro e a3 W3 hp
    cases e with
    | normal =>
      obtain ⟨hk3, hkp3, hi3⟩ := hp
      obtain ⟨hr, hl3, hs3, hb4⟩ := fin none W3 hk3
      exact ⟨_, _, hr, .inl ⟨rfl, ⟨⟨hIp _ _ _ _ _ hi3 (by omega) hl3, by rw [hsz]; exact hs3⟩, hb4⟩, hKt hkpa (hKt (hKt hw2 hkp3) (hKb _ _ _ _ (by omega) hl3))⟩⟩
    | ret =>
      obtain ⟨hk3, hi3⟩ := hp
      obtain ⟨hr, hl3, hs3, hb4⟩ := fin (some .ret) W3 hk3
      exact ⟨_, _, hr, .inr ⟨rfl, .ret, ⟨hIxp _ _ _ _ _ _ hi3 (by omega) hl3, by rw [hsz]; exact hs3⟩, hb4⟩⟩
    | exit id =>
      obtain ⟨hk3, hi3⟩ := hp
      obtain ⟨hr, hl3, hs3, hb4⟩ := fin (some (.exit id)) W3 hk3
      exact ⟨_, _, hr, .inr ⟨rfl, .exit id, ⟨hIxp _ _ _ _ _ _ hi3 (by omega) hl3, by rw [hsz]; exact hs3⟩, hb4⟩⟩
    | goto t =>
      obtain ⟨hk3, hi3⟩ := hp
      obtain ⟨hr, hl3, hs3, hb4⟩ := fin (some (.goto t)) W3 hk3
      exact ⟨_, _, hr, .inr ⟨rfl, .goto t, ⟨hIxp _ _ _ _ _ _ hi3 (by omega) hl3, by rw [hsz]; exact hs3⟩, hb4⟩⟩
    | panic ch => exact hp.elim
    | outgrown => exact hp.elim
  · rintro e W2 ⟨⟨v, rfl⟩, (⟨xs, hS, ⟨hi, _⟩, hb⟩ | ⟨pre, hSp, c, ⟨hi, _⟩, hb⟩)⟩
    · have hr := run_endLoop (P := P) hb.1 (by rw [hrec]; simp [loopRec])
      rw [hrec] at hr
      exact ⟨none, _, hr, hdone _ xs _ (Nat.le_refl _) hS (hIp _ _ _ _ _ hi (by omega) hb.1) ((World.putObj_heap_other (by omega)).trans hb.2)⟩
    · have hr := run_endLoop (P := P) hb.1 (by rw [hrec]; simp [loopRec])
      rw [hrec] at hr
      exact ⟨some c, _, hr, hstop _ c pre _ (Nat.le_refl _) hSp (hIxp _ _ _ _ _ _ hi (by omega) hb.1) ((World.putObj_heap_other (by omega)).trans hb.2)⟩
end

end Go.Proofs.YtbegplfijjbpcaaDoor
