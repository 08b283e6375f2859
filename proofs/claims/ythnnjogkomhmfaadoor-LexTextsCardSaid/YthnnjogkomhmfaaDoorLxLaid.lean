/- What the rows' list gives: the table of glyphs, the library's tables; a world that holds them. -/
import Derived.Test.YthnnjogkomhmfaaDoorLxOther
import Derived.Test.YthnnjogkomhmfaaDoorRows
import Derived.Test.YthnnjogkomhmfaaDoorCards
import Derived.Test.YthnnjogkomhmfaaDoorTie
import Derived.ProofKit
import Derived.OpenShut
import Derived.LaidSub
import Derived.LaidHandle
import Derived.LaidLaws
import Derived.RowKitTokens
import Derived.Lib.LaidU8
import Derived.Deep.DeepHandedRow
import Derived.Deep.DeepWitnessRowRef
import Derived.Lib.LaidTab
import Derived.Lib.LaidIn
import Derived.PinnedBridge
import Derived.Stop.LaidTwo
namespace Go.Proofs.YthnnjogkomhmfaaDoor
open Go Go.ChangeShapes Go.WideShapes Go.ChangeAt Go.RowKit

theorem own : ownKnob Tryd.prog.godebug = none := by kernel_rfl

/-- The table as a row lists it. -/
def glyphData : DataW Unit := .agg ((List.range 38).map fun k => .agg [.lit (.string (gl k)), .lit (.string (di k)), .lit (.int .i64 ((cl k : Nat) : Int))])
theorem glyph_eq : Rows.laid_diaeresis_glyph_table (H := Unit) = glyphData := by kernel_rfl

set_option maxRecDepth 100000 in
theorem sign_of_struct {W : World} {base : Nat} {sp : Nat → Bool} {held : Bool} {fuel : Nat} {cs : List Value} {a b : List UInt8} {c : Int} {p : List MemPlace}
    (h : DataW.trod (fun _ => ()) Tryd.prog W base sp held fuel 82 cs = some ((.agg [.lit (.string a), .lit (.string b), .lit (.int .i64 c)] : DataW Unit), p)) : cs = [.string (bs a), .string (bs b), .int .i64 c] := by
  obtain ⟨xs, n, rfl, hx, hl, hxl, hall⟩ := DataW.trod_struct Tryd.underlying82 h
  have hxs : xs.map (·.1) = [.lit (.string a), .lit (.string b), .lit (.int .i64 c)] := by
    have := congrArg Prod.fst hx
    simpa using this.symm
  obtain ⟨x0, x1, x2, rfl⟩ : ∃ x0 x1 x2, xs = [x0, x1, x2] := by
    match xs, hxs with
    | [x0, x1, x2], _ => exact ⟨x0, x1, x2, rfl⟩
  simp only [List.map_cons, List.map_nil, List.cons.injEq, and_true] at hxs
  obtain ⟨e0, e1, e2⟩ := hxs
  have f0 := hall 0 _ rfl
  have f1 := hall 1 _ rfl
  have f2 := hall 2 _ rfl
  have n9 : Tryd.prog.cellsOf 9 = 1 := by kernel_rfl
  have n3 : Tryd.prog.cellsOf 3 = 1 := by kernel_rfl
  have n39 : Tryd.prog.cellsOf 82 = 3 := by kernel_rfl
  rw [n39] at hl
  change DataW.trod _ _ _ _ _ _ _ 9 ((cs.drop 0).take (Tryd.prog.cellsOf 9)) = some x0 at f0
  change DataW.trod _ _ _ _ _ _ _ 9 ((cs.drop 1).take (Tryd.prog.cellsOf 9)) = some x1 at f1
  change DataW.trod _ _ _ _ _ _ _ 3 ((cs.drop 2).take (Tryd.prog.cellsOf 3)) = some x2 at f2
  rw [n9] at f0 f1
  rw [n3] at f2
  obtain ⟨s0, q0, r0, _⟩ := DataW.trod_string Tryd.underlying9 f0
  obtain ⟨s1, q1, r1, _⟩ := DataW.trod_string Tryd.underlying9 f1
  obtain ⟨z2, q2, r2, _⟩ := DataW.trod_int Tryd.underlying3 f2
  subst r0 r1 r2
  simp only [DataW.lit.injEq, Lit.string.injEq, Lit.int.injEq, true_and] at e0 e1 e2
  subst e0 e1 e2
  rw [bs_of, bs_of]
  match cs, hl with
  | [c0, c1, c2], _ =>
    simp at q0 q1 q2
    rw [q0, q1, q2]

theorem tableName : Tryd.prog.globalNamed "diaeresis/glyph.table" = some 3 := by kernel_rfl
theorem tableType : (Tryd.prog.globals[3]?).map (·.type) = some 107 := by kernel_rfl

theorem accept_eq : Rows.laid_unicode_utf8_acceptRanges (H := Unit) = Lib.acceptData := by kernel_rfl

set_option maxRecDepth 100000 in
theorem ground_of_laid {W : World} (h : laidMetH Tryd.prog Rows.lexNamesRow.laid W) : LG W := by
  have h0 := laidMetH_iff.1 h
  have h1 : laidMet Tryd.prog [("unicode/utf8.acceptRanges", Rows.laid_unicode_utf8_acceptRanges), ("diaeresis/glyph.table", Rows.laid_diaeresis_glyph_table), ("unicode/utf8.first", Rows.laid_unicode_utf8_first)] W := h0.1
  have ht : Lib.Utf8Tabs 1 2 W := utf8Tabs_of_reads (ρ := Tryd.lays260_ren) Tryd.lays260 ⟨by kernel_rfl, by kernel_rfl, by kernel_rfl, by kernel_rfl, by kernel_rfl, by kernel_rfl, by kernel_rfl⟩
    (Pinned.utf8First_eq ▸ Lib.laidMet.reads h1 (.tail _ (.tail _ (.head _)))) (accept_eq ▸ Lib.laidMet.reads h1 (.head _))
  have hr := Lib.laidMet.reads h1 (.tail _ (.head _))
  rw [glyph_eq] at hr
  obtain ⟨g, t, cs, fuel, p, hg, hty, hvar, hd⟩ := hr
  obtain rfl := Option.some.inj (tableName.symm.trans hg)
  obtain rfl := Option.some.inj (tableType.symm.trans hty)
  have hT : TabG W := fun k hk => by
    obtain ⟨fuel', d, q, hdi, he⟩ := Lib.array_elem Tryd.underlying107 hd k hk
    simp only [List.getElem?_map, List.getElem?_range hk, Option.map_some, Option.some.injEq] at hdi
    subst hdi
    rw [show Tryd.prog.cellsOf 82 = 3 by kernel_rfl] at he
    have hcs := sign_of_struct he
    have e0 := congrArg (·[0]?) hcs
    have e1 := congrArg (·[1]?) hcs
    have e2 := congrArg (·[2]?) hcs
    simp only [List.getElem?_take, List.getElem?_drop] at e0 e1 e2
    refine ⟨?_, ?_, ?_⟩
    · rw [World.var?_cell hg hvar (k * 3), ← Array.getElem?_toList]
      simpa using e0
    · rw [World.var?_cell hg hvar (k * 3 + 1), ← Array.getElem?_toList]
      simpa using e1
    · rw [World.var?_cell hg hvar (k * 3 + 2), ← Array.getElem?_toList]
      simpa using e2
  have l0 := World.block_lt_of_cell? W _ (hT 0 (by omega)).1
  have l1 := World.block_lt_of_cell? W _ (ht.1 0 (by omega))
  have l2 := World.block_lt_of_cell? W _ (ht.2 0 (by omega)).1
  exact ⟨⟨hT, l0⟩, ht, l1, l2⟩

/-- A WORLD FOR THE WITNESS. -/
noncomputable def laidWorld (os : Os) : World :=
  let w0 := World.holding Tryd.prog os ⟨#[], #[], []⟩
  let put (h : Array Obj) (g : Nat) (cs : Array Value) : Array Obj := h.modify g fun
    | .cells _ t frozen => .cells cs t frozen
    | o => o
  let h1 := put w0.heap 3 ((List.range 38).flatMap fun k => [Value.string (bs (gl k)), Value.string (bs (di k)), Value.int .i64 ((cl k : Nat) : Int)]).toArray
  let h2 := put h1 1 (Lib.firstTab.map fun z => Value.int .u8 z).toArray
  let h3 := put h2 2 ((List.range 16).flatMap fun i => [Value.int .u8 (Lib.accLo i), Value.int .u8 (Lib.accHi i)]).toArray
  { w0 with heap := h3 }
set_option maxRecDepth 100000 in
theorem laid_metH (os : Os) (args : Array Value) : laidMetH Tryd.prog Rows.lexNamesRow.laid ((laidWorld os).forCall (fun _ _ => 0) ⟨#[], args, []⟩).memory := by
  refine laidMetH_of_parts ?_ (by kernel_rfl)
  have h := (LaidIn.of_run (P := Tryd.prog) (l := [("unicode/utf8.acceptRanges", Lib.acceptData), ("diaeresis/glyph.table", glyphData), ("unicode/utf8.first", Lib.firstData)]) (w := ((laidWorld os).forCall (fun _ _ => 0) ⟨#[], args, []⟩).memory) [2, 3, 1] 8 (by kernel_rfl) (by kernel_rfl) (by kernel_rfl) (by kernel_rfl)).met
  rw [← glyph_eq, ← accept_eq, ← Pinned.utf8First_eq] at h
  exact h
end Go.Proofs.YthnnjogkomhmfaaDoor
