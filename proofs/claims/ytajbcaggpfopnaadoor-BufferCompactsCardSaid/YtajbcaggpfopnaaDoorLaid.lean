/- What the rows' list gives: the three sentinels; a world that holds them. -/
import Derived.Test.YtajbcaggpfopnaaDoorErr
import Derived.Test.YtajbcaggpfopnaaDoorRows
import Derived.Test.YtajbcaggpfopnaaDoorCards
import Derived.Test.YtajbcaggpfopnaaDoorTie
import Derived.ProofKit
import Derived.OpenShut
import Derived.LaidSub
import Derived.LaidHandle
import Derived.LaidLaws
import Derived.RowKitTokens
import Derived.Stop.LaidTwo
import Derived.Deep.DeepHandedRow
import Derived.Deep.DeepWitnessRowRef
import Derived.Lib.LaidTab
namespace Go.Proofs.YtajbcaggpfopnaaDoor
open Go Go.ChangeShapes Go.WideShapes Go.ChangeAt Go.RowKit

theorem own : ownKnob Tryd.prog.godebug = none := by kernel_rfl
theorem gF : Tryd.prog.globalNamed "diaeresis/buffer.errFull" = some 0 := by kernel_rfl
theorem gN : Tryd.prog.globalNamed "diaeresis/buffer.errNil" = some 1 := by kernel_rfl
theorem gR : Tryd.prog.globalNamed "diaeresis/buffer.errRange" = some 2 := by kernel_rfl
theorem gFType : (Tryd.prog.globals[0]?).map (·.type) = some 45 := by kernel_rfl
theorem gNType : (Tryd.prog.globals[1]?).map (·.type) = some 45 := by kernel_rfl
theorem gRType : (Tryd.prog.globals[2]?).map (·.type) = some 45 := by kernel_rfl
theorem cellsErr : Tryd.prog.cellsOf 108 = 1 := by kernel_rfl
theorem cellsStr : Tryd.prog.cellsOf 9 = 1 := by kernel_rfl
theorem star : "*" ++ "errors.errorString" = "*errors.errorString" := by decide
theorem rowErr (u : TypeId) (h : Tryd.prog.typeName? 3 u = some "*errors.errorString") : u = 85 :=
  typeName_ptr_named (nm := "errors.errorString") (by rw [star]; kernel_rfl) (by kernel_rfl) (by decide) u (by rw [star]; exact h)

/-- THREE SENTINELS OF ONE TYPE, EACH ITS OWN. -/
theorem laid_sentinels3 {P : Program} {n0 n1 n2 nm : String} {text0 text1 text2 : List UInt8} {W : World} {g0 g1 g2 : Nat} {ti tp te ts : TypeId} {ms : Array (String × TypeId)} {f : Field}
    (h : laidMet P [(n0, .iface nm (.ptr (.agg [.lit (.string text0)]))), (n1, .iface nm (.ptr (.agg [.lit (.string text1)]))), (n2, .iface nm (.ptr (.agg [.lit (.string text2)])))] W)
    (hg0 : P.globalNamed n0 = some g0) (ht0 : (P.globals[g0]?).map (·.type) = some ti) (hg1 : P.globalNamed n1 = some g1) (ht1 : (P.globals[g1]?).map (·.type) = some ti) (hg2 : P.globalNamed n2 = some g2) (ht2 : (P.globals[g2]?).map (·.type) = some ti)
    (hi : P.underlying ti = some (.interface ms)) (hrow : ∀ u, P.typeName? 3 u = some nm → u = tp)
    (hp : P.underlying tp = some (.pointer te)) (he : P.underlying te = some (.struct #[f])) (hft : f.type = ts) (hfo : f.offset = 0) (hs : P.underlying ts = some .string) (hc : P.cellsOf te = 1) (hcs : P.cellsOf ts = 1) :
    ∃ (a0 a1 a2 : Addr), (W.var? P n0 = some #[.iface tp (.pointer (some a0))] ∧ W.var? P n1 = some #[.iface tp (.pointer (some a1))] ∧ W.var? P n2 = some #[.iface tp (.pointer (some a2))]) ∧
      (a0 ≠ a1 ∧ a0 ≠ a2 ∧ a1 ≠ a2) ∧
      (∃ c t, W.heap[a0.block]? = some (.cells c t (0, 0))) ∧ (∃ c t, W.heap[a1.block]? = some (.cells c t (0, 0))) ∧ (∃ c t, W.heap[a2.block]? = some (.cells c t (0, 0))) := by
  obtain ⟨ps, ⟨g0', t0', cs0, f0, p0, q0, hg0', ht0', hv0, hd0, ⟨g1', t1', cs1, f1, p1, q1, hg1', ht1', hv1, hd1, ⟨g2', t2', cs2, f2, p2, q2, hg2', ht2', hv2, hd2, _, e2⟩, e1⟩, e0⟩, hnd, hrows⟩ := h
  obtain rfl := Option.some.inj (hg0.symm.trans hg0')
  obtain rfl := Option.some.inj (hg1.symm.trans hg1')
  obtain rfl := Option.some.inj (hg2.symm.trans hg2')
  obtain rfl := Option.some.inj (ht0.symm.trans ht0')
  obtain rfl := Option.some.inj (ht1.symm.trans ht1')
  obtain rfl := Option.some.inj (ht2.symm.trans ht2')
  subst e2
  subst e1
  subst e0
  obtain ⟨l0⟩ := cs0
  obtain ⟨l1⟩ := cs1
  obtain ⟨l2⟩ := cs2
  have ok0 : ∀ u v, l0 = [.iface u v] → Value.okWide P W .any 0 u v := fun u v e => by
    subst e
    exact (hrows g0 0 (by simp [MemPlace.row])).2 u v (by simpa using World.var?_cell hg0' hv0 0)
  have ok1 : ∀ u v, l1 = [.iface u v] → Value.okWide P W .any 0 u v := fun u v e => by
    subst e
    exact (hrows g1 0 (by simp [MemPlace.row])).2 u v (by simpa using World.var?_cell hg1' hv1 0)
  have ok2 : ∀ u v, l2 = [.iface u v] → Value.okWide P W .any 0 u v := fun u v e => by
    subst e
    exact (hrows g2 0 (by simp [MemPlace.row])).2 u v (by simpa using World.var?_cell hg2' hv2 0)
  obtain ⟨a0, s0, rfl, hc0, hs0, hz0, rfl⟩ := errorString_of_trod hi hrow hp he hft hfo hs hc hcs hd0 ok0
  obtain ⟨a1, s1, rfl, hc1, hs1, hz1, rfl⟩ := errorString_of_trod hi hrow hp he hft hfo hs hc hcs hd1 ok1
  obtain ⟨a2, s2, rfl, hc2, hs2, hz2, rfl⟩ := errorString_of_trod hi hrow hp he hft hfo hs hc hcs hd2 ok2
  refine ⟨a0, a1, a2, ⟨hv0, hv1, hv2⟩, ⟨?_, ?_, ?_⟩, (hrows a0.block a0.off (by simp [MemPlace.row])).1, (hrows a1.block a1.off (by simp [MemPlace.row])).1, (hrows a2.block a2.off (by simp [MemPlace.row])).1⟩
  · rintro rfl
    simp [MemPlace.row] at hnd
  · rintro rfl
    simp [MemPlace.row] at hnd
  · rintro rfl
    simp [MemPlace.row] at hnd

/-- THE SENTINELS OF A WORLD THAT HOLDS WHAT THE ROWS LIST. -/
theorem sent_of_laid {W : World} (h : laidMetH Tryd.prog Rows.bufferNoneRow.laid W) : ∃ aF aN aR, Sent W.heap.size W aF aN aR := by
  have h' : laidMet Tryd.prog Rows.bufferNoneRow.laid W := by
    have := (laidMetH_iff.1 h).1
    exact this
  obtain ⟨aN, aR, aF, ⟨vN, vR, vF⟩, ⟨d1, d2, d3⟩, bN, bR, bF⟩ := laid_sentinels3 h' gN gNType gR gRType gF gFType Tryd.underlying45 rowErr Tryd.underlying85 Tryd.underlying108 rfl rfl Tryd.underlying9 cellsErr cellsStr
  have cF : W.cell? ⟨0, 0, none⟩ = some (.iface 85 (.pointer (some aF))) := by simpa using World.var?_cell gF vF 0
  have cN : W.cell? ⟨1, 0, none⟩ = some (.iface 85 (.pointer (some aN))) := by simpa using World.var?_cell gN vN 0
  have cR : W.cell? ⟨2, 0, none⟩ = some (.iface 85 (.pointer (some aR))) := by simpa using World.var?_cell gR vR 0
  have lt : ∀ {a : Addr}, (∃ c t, W.heap[a.block]? = some (.cells c t (0, 0))) → a.block < W.heap.size := by
    rintro a ⟨c, t, hb⟩
    exact (Array.getElem?_eq_some_iff.1 hb).1
  have l0 := World.block_lt_of_cell? W _ cF
  have l1 := World.block_lt_of_cell? W _ cN
  have l2 := World.block_lt_of_cell? W _ cR
  dsimp only at l0 l1 l2
  exact ⟨aF, aN, aR, ⟨cF, cN, cR⟩, ⟨fun e => d2 e.symm, fun e => d3 e.symm, d1⟩, ⟨bF, bN, bR⟩, by omega, lt bF, lt bN, lt bR⟩

abbrev sN : ByteArray := { data := #[98, 117, 102, 102, 101, 114, 58, 32, 116, 104, 101, 114, 101, 32, 105, 115, 32, 110, 111, 32, 98, 117, 102, 102, 101, 114] }
abbrev sR : ByteArray := { data := #[98, 117, 102, 102, 101, 114, 58, 32, 116, 104, 101, 114, 101, 32, 97, 114, 101, 32, 110, 111, 32, 115, 117, 99, 104, 32, 98, 121, 116, 101, 115] }
abbrev sF : ByteArray := { data := #[98, 117, 102, 102, 101, 114, 58, 32, 116, 104, 101, 114, 101, 32, 119, 111, 117, 108, 100, 32, 98, 101, 32, 116, 111, 111, 32, 109, 97, 110, 121, 32, 98, 121, 116, 101, 115] }
/-- Where the entry's heap ends. -/
noncomputable def low : Nat := (World.holding Tryd.prog default ⟨#[], #[], []⟩).heap.size
/-- A WORLD FOR THE WITNESS. -/
noncomputable def laidWorld (os : Os) : World :=
  let w0 := World.holding Tryd.prog os ⟨#[.cells #[.string sF] 108, .cells #[.string sN] 108, .cells #[.string sR] 108], #[], []⟩
  { w0 with heap := ((w0.heap.modify 0 fun
      | .cells _ t frozen => .cells #[.iface 85 (.pointer (some ⟨low, 0, none⟩))] t frozen
      | o => o).modify 1 fun
      | .cells _ t frozen => .cells #[.iface 85 (.pointer (some ⟨low + 1, 0, none⟩))] t frozen
      | o => o).modify 2 fun
      | .cells _ t frozen => .cells #[.iface 85 (.pointer (some ⟨low + 2, 0, none⟩))] t frozen
      | o => o }
theorem laid_met (os : Os) (args : Array Value) : laidMet Tryd.prog Rows.bufferNoneRow.laid ((laidWorld os).forCall (fun _ _ => 0) ⟨#[], args, []⟩).memory :=
  laidMet_of_run' 8 (by kernel_rfl) (by kernel_rfl)
theorem laid_metH (os : Os) (args : Array Value) : laidMetH Tryd.prog Rows.bufferNoneRow.laid ((laidWorld os).forCall (fun _ _ => 0) ⟨#[], args, []⟩).memory := laid_met os args
end Go.Proofs.YtajbcaggpfopnaaDoor
