/- How many bytes there are. -/
import Derived.Test.YtajbcaggpfopnaaDoorIter
import Derived.Outline
namespace Go.Proofs.YtajbcaggpfopnaaDoor
open Go Go.RowKit Go.Shelf
attribute [local go_sem] Oper.semAt_some

set_option maxRecDepth 100000 in
set_option maxHeartbeats 2000000 in
/-- p.size(): how many bytes there are; what lay stays. -/
theorem size_in (F : Fence) (n : Nat) (h27 : F.fn 27) (h33 : F.fn 33) (h38 : F.fn 38) (hro : F.round = none) (hn : 3 ≤ n) (B : Nat) (v : Value) (S : Nat → ByteArray) (len : Nat) (hlen : len ≤ 1000000) (hoff : offs S len ≤ 1000000)
    (w : World) (hB : B < w.heap.size) (cB : w.cell? ⟨B, 0, none⟩ = some v) (hv : Holds w.heap.size w v S len) :
    CallsIn F n Tryd.prog 27 #[.pointer (some ⟨B, 0, none⟩)] w fun e W' => e = .returned (.int .i64 (offs S len : Int)) ∧ Below w.heap.size w W' := by
  have h1 : 1 ≤ n := by omega
  refine callsIn_of_wp_marks Tryd.func27 rfl h27 ?_ hro
  simp only [Tryd.ntmps27, List.size_toArray, List.length_cons, List.length_nil, Nat.reduceAdd, Nat.reduceSub, Array.replicate_succ, Array.replicate_zero, List.push_toArray, List.append_toArray, List.nil_append, List.cons_append]
  gi_wp2_with (gi_at_call 33; refine (each_in F (n - 1) h33 hro _ _).mono ?_; rintro e w' ⟨rfl, rfl⟩)
  have bN := (Boxed.new w 3 (.int .i64 0)).alloc (.cells #[.pointer (some ⟨B, 0, none⟩)] 61)
  have bP := Boxed.new (w.alloc (.cells #[.int .i64 0] 3)) 61 (.pointer (some ⟨B, 0, none⟩))
  simp only [World.size_alloc] at bP
  have hB0 : Below w.heap.size w ((w.alloc (.cells #[.int .i64 0] 3)).alloc (.cells #[.pointer (some ⟨B, 0, none⟩)] 61)) := ((Below.refl _ w).alloc (Nat.le_refl _) _).alloc (by simp) _
  have hsz : ((w.alloc (.cells #[.int .i64 0] 3)).alloc (.cells #[.pointer (some ⟨B, 0, none⟩)] 61)).heap.size = w.heap.size + 2 := by simp
  obtain ⟨W0, hW0⟩ : ∃ W0, (w.alloc (.cells #[.int .i64 0] 3)).alloc (.cells #[.pointer (some ⟨B, 0, none⟩)] 61) = W0 := ⟨_, rfl⟩
  rw [hW0] at bN bP hB0 hsz ⊢
  clear hW0
  refine wpIn_rangeFunc_ownH hro h1 (gf := 38) (lb := #[.pointer (some ⟨w.heap.size + 1, 0, none⟩)]) rfl h38 (enters_of Tryd.func38 (by kernel_rfl) rfl)
    (each_stops F (n - 1) h38 hro (by omega) (w.heap.size + 1) w.heap.size W0.heap.size B v S len hlen hoff W0 (by omega) (Nat.le_refl _) (by omega) bP.cell hB ((hB0.cell (p := ⟨B, 0, none⟩) hB).trans cB) (hv.below hB0 (Nat.le_refl _))) keeps_t (keeps_b (by omega)) (Below.refl _ _) (fun _ => rfl)
    (fun pre W => (∃ m : Nat, m ≤ 1000000 ∧ Boxed W w.heap.size 3 (.int .i64 (m : Int)) ∧ (InOrder pre → m = offs S pre.length)) ∧ Below w.heap.size w W)
    (fun _ _ _ => False)
    (OwnFrom.and (Own.from (fun s X Y row hs hg hr => by obtain ⟨m, h1, hb, h2⟩ := hs; exact ⟨m, h1, boxed_own _ 3 (fun (_ : Unit) => Value.int .i64 (m : Int)) () X Y row hb hg hr, h2⟩) _) (ownFrom_below (Nat.le_refl _) (by omega)))
    (fun _ _ _ _ _ hs _ _ => hs)
    ⟨⟨0, by omega, bN, fun _ => rfl⟩, hB0⟩
    (fun x a' W => ∃ Bx, w.heap.size < Bx ∧ Boxed W Bx 51 (.string (S x.1)) ∧ a' = { tmps := #[.pointer (some ⟨B, 0, none⟩), undef, .int .i64 0, .pointer (some ⟨w.heap.size, 0, none⟩), .int .i64 (offs S x.1 : Int), .pointer (some ⟨Bx, 0, none⟩), .pointer (some ⟨B, 0, none⟩), .func (.func 38) #[] #[.pointer (some ⟨w.heap.size + 1, 0, none⟩)], .int .i64 (offs S x.1 : Int), .agg #[.string (S x.1)], undef, undef, undef, undef, undef, undef], defers := [] })
    (fun x a' _ X Y row hs hg hr => by obtain ⟨Bx, h1, h2, h3⟩ := hs; exact ⟨Bx, h1, boxed_own Bx 51 (fun (_ : Unit) => Value.string (S x.1)) () X Y row h2 hg (fun r e => (hr r e).2), h3⟩)
    ?assign ?body ?done ?stop
  case assign =>
    rintro l pre x W K ⟨⟨m, hm, bM, hin⟩, hB1⟩ hK
    dsimp only [encP]
    gi_wp2
    have hs := hB1.size
    exact hK _ _ ((KeepsOthers.alloc _ _).from _) (Keeps.alloc W hs _) ⟨⟨m, hm, bM.alloc _, hin⟩, hB1.alloc hs _⟩ ⟨W.heap.size, bM.lt, Boxed.new W 51 _, rfl⟩
  case body =>
    rintro l pre x a' W hl ⟨r, hr⟩ ⟨⟨m, hm, bM, hin⟩, hB1⟩ ⟨Bx, hBx, bX, rfl⟩ hlt
    have hok : offs S x.1 + (S x.1).size ≤ 1000000 := Nat.le_trans (offs_mono S (show x.1 + 1 ≤ len from x.2)) hoff
    have cX := bX.cell
    have cM := bM.cell
    have fM := bM.frozen
    gi_wp2
    refine ⟨(KeepsOthers.setCell _ _ _).from _, Keeps.setCell W (p := ⟨w.heap.size, 0, none⟩) (Nat.le_refl _) (by show w.heap.size < _; omega) _, ⟨offs S (x.1 + 1), by rw [offs_succ]; omega, ?_, fun h => ?_⟩, hB1.setCell (p := ⟨w.heap.size, 0, none⟩) (Nat.le_refl _) _⟩
    · have := bM.set (.int .i64 ((offs S (x.1 + 1) : Nat) : Int))
      rw [offs_succ] at this ⊢
      simpa using this
    · obtain ⟨_, h2⟩ := inOrder_snoc.1 h
      rw [List.length_append, ← h2]; rfl
  case done =>
    rintro D zs W hD hz ⟨⟨m, hm, bM, hin⟩, hB1⟩ hK
    obtain ⟨hi1, hi2⟩ := inOrder_of hz
    obtain rfl : m = offs S len := by rw [hin hi1, hi2]
    have HZ := hz
    clear hz hin hi2 hi1
    have cM := bM.cell
    gi_wp2
    refine ⟨by simp, .inl ⟨_, _, rfl, run_takeDeferred hK, ?_⟩⟩
    exact ⟨_, results_tmp rfl _ _ _, rfl, hB1.trans (belowK_b (w := w) (Nat.le_refl _) W D _ _ (by omega) hK rfl rfl)⟩
  case stop =>
    rintro D c pre W _ _ h _
    exact h.elim
end Go.Proofs.YtajbcaggpfopnaaDoor
