/- The kinds of the classes, in a map. -/
import Derived.Test.YtdgffpcbpilkcaaGreatDoorLxGlyph
import Derived.Maps.Own
namespace Go.Proofs.YtdgffpcbpilkcaaGreatDoor
open Go Go.RowKit Go.Shelf
attribute [local go_sem] Oper.semAt_some

/-- The map's entries, the first k of them. -/
def ents (k : Nat) : Array MapEntry := (#[⟨.int .i64 1, .int .i64 6, 0⟩, ⟨.int .i64 2, .int .i64 7, 1⟩, ⟨.int .i64 3, .int .i64 8, 2⟩, ⟨.int .i64 4, .int .i64 9, 3⟩] : Array MapEntry).extract 0 k
theorem heap_set_new (w : World) (o o' : Obj) : { (w.alloc o) with heap := (w.alloc o).heap.setIfInBounds w.heap.size o' } = w.alloc o' := by
  simp only [World.alloc]
  congr 1
  apply Array.ext'
  simp [Array.setIfInBounds, Array.toList_push]
theorem alloc_at (w : World) (o : Obj) : (w.alloc o).heap[w.heap.size]? = some o := World.alloc_heap_new w o

theorem check_k (W : World) (e : Bool) (x : Int) : (Instr.checkKey e 10000 3 (.int .i64 x)).run Tryz.prog W = .ok () W :=
  Go.MapKept.run_checkKey (n := 9999) Tryz.underlying3 (by first | exact rfl | exact trivial | exact ⟨_, rfl⟩ | simp [Go.MapKept.IsKey]) e
theorem find_k (W : World) (x : Int) (es : List MapEntry) (r : Option (Nat × Value)) (h : Instr.findNow (.int .i64) (.int .i64 x) es 0 = some r) : (Instr.findKey 3 (.int .i64 x) es).run Tryz.prog W = .ok r W := by
  simp [Instr.findKey, run_underlying Tryz.underlying3, h, Result.andThen]
theorem ins (w : World) (k : Nat) (x y : Int) (hf : Instr.findNow (.int .i64) (.int .i64 x) (ents k).toList 0 = some none) (hp : (ents k).push ⟨.int .i64 x, .int .i64 y, k⟩ = ents (k + 1)) :
    (Instr.mapUpdate 145 (.map (some w.heap.size)) (.int .i64 x) (.int .i64 y)).run Tryz.prog (w.alloc (.map (ents k) k)) = .ok () (w.alloc (.map (ents (k + 1)) (k + 1))) := by
  have hb : (w.alloc (.map (ents k) k)).heap[w.heap.size]? = some (.map (ents k) k) := alloc_at w _
  have h1 := find_k (w.alloc (.map (ents k) k)) x (ents k).toList none hf
  simp [Instr.mapUpdate, run_underlying Tryz.underlying145, Go.MapKept.run_getObj_map hb, check_k, h1, Go.MapKept.run_setObj_map _ hb, Result.andThen, hp]
  exact heap_set_new w _ _

/-- THE MAP LIES. -/
def KindsAt (W : World) (b : Nat) : Prop := W.heap[b]? = some (.map (ents 4) 4)
theorem look_some (W : World) (b : Nat) (x y : Int) (j : Nat) (hb : KindsAt W b) (hf : Instr.findNow (.int .i64) (.int .i64 x) (ents 4).toList 0 = some (some (j, .int .i64 y))) :
    (Instr.lookup 145 (.map (some b)) (.int .i64 x) true).run Tryz.prog W = .ok (.tuple #[.int .i64 y, .bool true]) W := by
  have h1 := find_k W x (ents 4).toList _ hf
  simp [Instr.lookup, run_underlying Tryz.underlying145, Go.MapKept.run_getObj_map hb, check_k, h1, Result.andThen]
theorem look_none (W : World) (b : Nat) (x : Int) (hb : KindsAt W b) (hf : Instr.findNow (.int .i64) (.int .i64 x) (ents 4).toList 0 = some none) :
    (Instr.lookup 145 (.map (some b)) (.int .i64 x) true).run Tryz.prog W = .ok (.tuple #[.int .i64 0, .bool false]) W := by
  have h1 := find_k W x (ents 4).toList _ hf
  simp [Instr.lookup, run_underlying Tryz.underlying145, Go.MapKept.run_getObj_map hb, check_k, h1, Result.andThen, Tryz.zeroValue3]
theorem look (W : World) (b c : Nat) (hb : KindsAt W b) (hc : c ≤ 6) :
    (Instr.lookup 145 (.map (some b)) (.int .i64 (c : Int)) true).run Tryz.prog W = .ok (.tuple #[.int .i64 ((kindC c : Nat) : Int), .bool (kindC c != 0)]) W := by
  rcases (by omega : c = 0 ∨ c = 1 ∨ c = 2 ∨ c = 3 ∨ c = 4 ∨ c = 5 ∨ c = 6) with rfl | rfl | rfl | rfl | rfl | rfl | rfl
  · exact look_none W b 0 hb rfl
  · exact look_some W b 1 6 0 hb rfl
  · exact look_some W b 2 7 1 hb rfl
  · exact look_some W b 3 8 2 hb rfl
  · exact look_some W b 4 9 3 hb rfl
  · exact look_none W b 5 hb rfl
  · exact look_none W b 6 hb rfl

/-- kinds(). -/
theorem kinds_c (w : World) :
    Calls Tryz.prog 84 #[] w fun e W' => e = .returned (.map (some w.heap.size)) ∧ W' = w.alloc (.map (ents 4) 4) := by
  have hmm : (Instr.makeMap 145 none).run Tryz.prog w = .ok (.map (some w.heap.size)) (w.alloc (.map (ents 0) 0)) := run_makeMap _ w
  have i0 := ins w 0 1 6 rfl rfl
  have i1 := ins w 1 2 7 rfl rfl
  have i2 := ins w 2 3 8 rfl rfl
  have i3 := ins w 3 4 9 rfl rfl
  simp only [Nat.reduceAdd] at i0 i1 i2 i3
  go_enter Tryz.func84, Tryz.ntmps84
  go_wp2
  go_ret
  exact ⟨rfl, rfl⟩
end Go.Proofs.YtdgffpcbpilkcaaGreatDoor
