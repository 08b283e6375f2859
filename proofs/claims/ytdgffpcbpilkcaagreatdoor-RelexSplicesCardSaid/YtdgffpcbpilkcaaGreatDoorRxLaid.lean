/- What the rows' list gives: the table of glyphs, the library's tables, the two sentinels; a world that holds them. -/
import Derived.Test.YtdgffpcbpilkcaaGreatDoorRyA
import Derived.Test.YtdgffpcbpilkcaaGreatDoorShelf
import Derived.Test.YtdgffpcbpilkcaaGreatDoorRows
import Derived.Test.YtdgffpcbpilkcaaGreatDoorCards
import Derived.Test.YtdgffpcbpilkcaaGreatDoorTie
import Derived.ProofKit
import Derived.OpenShut
import Derived.LaidSub
import Derived.LaidHandle
import Derived.LaidLaws
import Derived.RowKitTokens
import Derived.Lib.LaidU8
import Derived.Deep.DeepHandedRow
import Derived.Deep.DeepWitnessRowRef
import Derived.Lib.LaidTab
import Derived.Lib.LaidIn
import Derived.PinnedBridge
import Derived.Stop.LaidTwo
namespace Go.Proofs.YtdgffpcbpilkcaaGreatDoor
open Go Go.ChangeShapes Go.WideShapes Go.ChangeAt Go.RowKit

theorem own : ownKnob Tryz.prog.godebug = none := by kernel_rfl

/-- The table as a row lists it. -/
def glyphData : DataW Unit := .agg ((List.range 38).map fun k => .agg [.lit (.string (gl k)), .lit (.string (di k)), .lit (.int .i64 ((cl k : Nat) : Int))])
theorem glyph_eq : Rows.laid_diaeresis_glyph_table (H := Unit) = glyphData := by kernel_rfl

set_option maxRecDepth 100000 in
theorem sign_of_struct {W : World} {base : Nat} {sp : Nat → Bool} {held : Bool} {fuel : Nat} {cs : List Value} {a b : List UInt8} {c : Int} {p : List MemPlace}
    (h : DataW.trod (fun _ => ()) Tryz.prog W base sp held fuel 172 cs = some ((.agg [.lit (.string a), .lit (.string b), .lit (.int .i64 c)] : DataW Unit), p)) : cs = [.string (bs a), .string (bs b), .int .i64 c] := by
  obtain ⟨xs, n, rfl, hx, hl, hxl, hall⟩ := DataW.trod_struct Tryz.underlying172 h
  have hxs : xs.map (·.1) = [.lit (.string a), .lit (.string b), .lit (.int .i64 c)] := by
    have := congrArg Prod.fst hx
    simpa using this.symm
  obtain ⟨x0, x1, x2, rfl⟩ : ∃ x0 x1 x2, xs = [x0, x1, x2] := by
    match xs, hxs with
    | [x0, x1, x2], _ => exact ⟨x0, x1, x2, rfl⟩
  simp only [List.map_cons, List.map_nil, List.cons.injEq, and_true] at hxs
  obtain ⟨e0, e1, e2⟩ := hxs
  have f0 := hall 0 _ rfl
  have f1 := hall 1 _ rfl
  have f2 := hall 2 _ rfl
  have n9 : Tryz.prog.cellsOf 9 = 1 := by kernel_rfl
  have n3 : Tryz.prog.cellsOf 3 = 1 := by kernel_rfl
  have n39 : Tryz.prog.cellsOf 172 = 3 := by kernel_rfl
  rw [n39] at hl
  change DataW.trod _ _ _ _ _ _ _ 9 ((cs.drop 0).take (Tryz.prog.cellsOf 9)) = some x0 at f0
  change DataW.trod _ _ _ _ _ _ _ 9 ((cs.drop 1).take (Tryz.prog.cellsOf 9)) = some x1 at f1
  change DataW.trod _ _ _ _ _ _ _ 3 ((cs.drop 2).take (Tryz.prog.cellsOf 3)) = some x2 at f2
  rw [n9] at f0 f1
  rw [n3] at f2
  obtain ⟨s0, q0, r0, _⟩ := DataW.trod_string Tryz.underlying9 f0
  obtain ⟨s1, q1, r1, _⟩ := DataW.trod_string Tryz.underlying9 f1
  obtain ⟨z2, q2, r2, _⟩ := DataW.trod_int Tryz.underlying3 f2
  subst r0 r1 r2
  simp only [DataW.lit.injEq, Lit.string.injEq, Lit.int.injEq, true_and] at e0 e1 e2
  subst e0 e1 e2
  rw [bs_of, bs_of]
  match cs, hl with
  | [c0, c1, c2], _ =>
    simp at q0 q1 q2
    rw [q0, q1, q2]

theorem tableName : Tryz.prog.globalNamed "diaeresis/glyph.table" = some 5 := by kernel_rfl
theorem tableType : (Tryz.prog.globals[5]?).map (·.type) = some 190 := by kernel_rfl

theorem accept_eq : Rows.laid_unicode_utf8_acceptRanges (H := Unit) = Lib.acceptData := by kernel_rfl

set_option maxRecDepth 100000 in
theorem tables_of_laid {W : World} (h : laidMetH Tryz.prog Rows.relexNoneRow.laid W) : LG W := by
  have h0 := laidMetH_iff.1 h
  have h1 : laidMet Tryz.prog [("unicode/utf8.acceptRanges", Rows.laid_unicode_utf8_acceptRanges), ("diaeresis/glyph.table", Rows.laid_diaeresis_glyph_table), ("diaeresis/relex.errRange", Rows.laid_diaeresis_relex_errRange), ("diaeresis/relex.errFull", Rows.laid_diaeresis_relex_errFull), ("unicode/utf8.first", Rows.laid_unicode_utf8_first)] W := h0.1
  have ht : Lib.Utf8Tabs 3 4 W := utf8Tabs_of_reads (ρ := Tryz.lays260_ren) Tryz.lays260 ⟨by kernel_rfl, by kernel_rfl, by kernel_rfl, by kernel_rfl, by kernel_rfl, by kernel_rfl, by kernel_rfl⟩
    (Pinned.utf8First_eq ▸ Lib.laidMet.reads h1 (.tail _ (.tail _ (.tail _ (.tail _ (.head _)))))) (accept_eq ▸ Lib.laidMet.reads h1 (.head _))
  have hr := Lib.laidMet.reads h1 (.tail _ (.head _))
  rw [glyph_eq] at hr
  obtain ⟨g, t, cs, fuel, p, hg, hty, hvar, hd⟩ := hr
  obtain rfl := Option.some.inj (tableName.symm.trans hg)
  obtain rfl := Option.some.inj (tableType.symm.trans hty)
  have hT : TabG W := fun k hk => by
    obtain ⟨fuel', d, q, hdi, he⟩ := Lib.array_elem Tryz.underlying190 hd k hk
    simp only [List.getElem?_map, List.getElem?_range hk, Option.map_some, Option.some.injEq] at hdi
    subst hdi
    rw [show Tryz.prog.cellsOf 172 = 3 by kernel_rfl] at he
    have hcs := sign_of_struct he
    have e0 := congrArg (·[0]?) hcs
    have e1 := congrArg (·[1]?) hcs
    have e2 := congrArg (·[2]?) hcs
    simp only [List.getElem?_take, List.getElem?_drop] at e0 e1 e2
    refine ⟨?_, ?_, ?_⟩
    · rw [World.var?_cell hg hvar (k * 3), ← Array.getElem?_toList]
      simpa using e0
    · rw [World.var?_cell hg hvar (k * 3 + 1), ← Array.getElem?_toList]
      simpa using e1
    · rw [World.var?_cell hg hvar (k * 3 + 2), ← Array.getElem?_toList]
      simpa using e2
  have l0 := World.block_lt_of_cell? W _ (hT 0 (by omega)).1
  have l1 := World.block_lt_of_cell? W _ (ht.1 0 (by omega))
  have l2 := World.block_lt_of_cell? W _ (ht.2 0 (by omega)).1
  exact ⟨⟨hT, l0⟩, ht, l1, l2⟩

theorem gRg : Tryz.prog.globalNamed "diaeresis/relex.errRange" = some 0 := by kernel_rfl
theorem gFl : Tryz.prog.globalNamed "diaeresis/relex.errFull" = some 1 := by kernel_rfl
theorem gRgType : (Tryz.prog.globals[0]?).map (·.type) = some 69 := by kernel_rfl
theorem gFlType : (Tryz.prog.globals[1]?).map (·.type) = some 69 := by kernel_rfl
theorem cellsErr : Tryz.prog.cellsOf 215 = 1 := by kernel_rfl
theorem cellsStr : Tryz.prog.cellsOf 9 = 1 := by kernel_rfl
theorem star : "*" ++ "errors.errorString" = "*errors.errorString" := by decide
theorem rowErr (u : TypeId) (h : Tryz.prog.typeName? 3 u = some "*errors.errorString") : u = 193 :=
  typeName_ptr_named (nm := "errors.errorString") (by rw [star]; kernel_rfl) (by kernel_rfl) (by decide) u (by rw [star]; exact h)

set_option maxRecDepth 100000 in
/-- THE GROUND. -/
theorem ground_of_laid {W : World} (h : laidMetH Tryz.prog Rows.relexNoneRow.laid W) (hsh : W.ShapedOpen Tryz.prog) : RG W.heap.size W := by
  have hlg := tables_of_laid h
  have hmx : ∃ m : Int, W.cell? ⟨2, 0, none⟩ = some (.int .i64 m) := Go.Proofs.cell_of_shapedOpen_int (zero := #[.int .i64 0]) (t := 3) hsh (of_decide_eq_true (by kernel_rfl)) (by kernel_rfl) rfl (by kernel_rfl) (by kernel_rfl) Tryz.underlying3
  have h0 := laidMetH_iff.1 h
  have h1 : laidMet Tryz.prog [("unicode/utf8.acceptRanges", Rows.laid_unicode_utf8_acceptRanges), ("diaeresis/glyph.table", Rows.laid_diaeresis_glyph_table), ("diaeresis/relex.errRange", Rows.laid_diaeresis_relex_errRange), ("diaeresis/relex.errFull", Rows.laid_diaeresis_relex_errFull), ("unicode/utf8.first", Rows.laid_unicode_utf8_first)] W := h0.1
  have h2 := h1.filter (fun x => x.1 == "diaeresis/relex.errRange" || x.1 == "diaeresis/relex.errFull")
  have h3 : laidMet Tryz.prog [("diaeresis/relex.errRange", Rows.laid_diaeresis_relex_errRange), ("diaeresis/relex.errFull", Rows.laid_diaeresis_relex_errFull)] W := h2
  obtain ⟨aR, aF, _, _, x1, x2, t1, t2, vR, vF, _, _, _, _, _, _, hne, bR, bF⟩ := laid_sentinels2 h3 gRg gRgType gFl gFlType Tryz.underlying69 rowErr Tryz.underlying193 Tryz.underlying215 rfl rfl Tryz.underlying9 cellsErr cellsStr
  have cR : W.cell? ⟨0, 0, none⟩ = some (.iface 193 (.pointer (some aR))) := by simpa using World.var?_cell gRg vR 0
  have cF : W.cell? ⟨1, 0, none⟩ = some (.iface 193 (.pointer (some aF))) := by simpa using World.var?_cell gFl vF 0
  have l0 := World.block_lt_of_cell? W _ cR
  have l1 := World.block_lt_of_cell? W _ cF
  have l2 := (Array.getElem?_eq_some_iff.1 bR).1
  have l3 := (Array.getElem?_eq_some_iff.1 bF).1
  have l4 := hlg.gl.lt
  have l5 := hlg.lt1
  have l6 := hlg.lt2
  obtain ⟨m, hm⟩ := hmx
  have l7 := World.block_lt_of_cell? W _ hm
  dsimp only at l0 l1 l7
  exact ⟨hlg, ⟨l4, l5, l6, by omega⟩, ⟨m, hm⟩, ⟨aR, aF, cR, cF, hne, ⟨x1, t1, bR⟩, ⟨x2, t2, bF⟩, l2, l3⟩, Nat.le_refl _⟩

abbrev sRg : ByteArray := { data := #[114, 101, 108, 101, 120, 58, 32, 116, 104, 101, 32, 116, 101, 120, 116, 32, 104, 97, 115, 32, 110, 111, 32, 115, 117, 99, 104, 32, 98, 121, 116, 101, 115] }
abbrev sFl : ByteArray := { data := #[114, 101, 108, 101, 120, 58, 32, 116, 104, 101, 32, 116, 101, 120, 116, 32, 119, 111, 117, 108, 100, 32, 98, 101, 32, 116, 111, 111, 32, 108, 111, 110, 103] }
/-- Where the entry's heap ends. -/
noncomputable def low : Nat := (World.holding Tryz.prog default ⟨#[], #[], []⟩).heap.size
/-- A WORLD FOR THE WITNESS. -/
noncomputable def laidWorld (os : Os) : World :=
  let w0 := World.holding Tryz.prog os ⟨#[.cells #[.string sRg] 215, .cells #[.string sFl] 215], #[], []⟩
  let put (h : Array Obj) (g : Nat) (cs : Array Value) : Array Obj := h.modify g fun
    | .cells _ t frozen => .cells cs t frozen
    | o => o
  let h1 := put w0.heap 5 ((List.range 38).flatMap fun k => [Value.string (bs (gl k)), Value.string (bs (di k)), Value.int .i64 ((cl k : Nat) : Int)]).toArray
  let h2 := put h1 3 (Lib.firstTab.map fun z => Value.int .u8 z).toArray
  let h3 := put h2 4 ((List.range 16).flatMap fun i => [Value.int .u8 (Lib.accLo i), Value.int .u8 (Lib.accHi i)]).toArray
  let h4 := put h3 0 #[.iface 193 (.pointer (some ⟨low, 0, none⟩))]
  let h5 := put h4 1 #[.iface 193 (.pointer (some ⟨low + 1, 0, none⟩))]
  { w0 with heap := h5 }
set_option maxRecDepth 100000 in
theorem laid_metH (os : Os) (args : Array Value) : laidMetH Tryz.prog Rows.relexNoneRow.laid ((laidWorld os).forCall (fun _ _ => 0) ⟨#[], args, []⟩).memory := by
  refine laidMetH_of_parts ?_ (by kernel_rfl)
  have h := (LaidIn.of_run (P := Tryz.prog) (l := [("unicode/utf8.acceptRanges", Lib.acceptData), ("diaeresis/glyph.table", glyphData), ("diaeresis/relex.errRange", Rows.laid_diaeresis_relex_errRange), ("diaeresis/relex.errFull", Rows.laid_diaeresis_relex_errFull), ("unicode/utf8.first", Lib.firstData)]) (w := ((laidWorld os).forCall (fun _ _ => 0) ⟨#[], args, []⟩).memory) [4, 5, 0, 1, 3, low, low + 1] 8 (by kernel_rfl) (by kernel_rfl) (by kernel_rfl) (by kernel_rfl)).met
  rw [← glyph_eq, ← accept_eq, ← Pinned.utf8First_eq] at h
  exact h
end Go.Proofs.YtdgffpcbpilkcaaGreatDoor
