/- place.walk: the walker of a text and a unit. -/
import Derived.Test.YtaahhilnkffdlaaDoorPgFind
import Derived.Maps.Own
import Derived.MapFrom
namespace Go.Proofs.YtaahhilnkffdlaaDoor
open Go Go.RowKit

theorem put_last (w : World) (o o' : Obj) : (w.alloc o).putObj w.heap.size o' = w.alloc o' := by
  unfold World.putObj World.alloc
  congr 1
  apply Array.ext_getElem?
  intro i
  simp only [Array.getElem?_setIfInBounds, Array.getElem?_push, Array.size_push]
  by_cases h : w.heap.size = i
  · subst h; simp
  · rw [if_neg h]
    by_cases h2 : i = w.heap.size
    · omega
    · simp [h2]

/-- A new key's entry. -/
theorem run_insert_int (w : World) (es : Array MapEntry) (clock : Nat) (k : Int) (v : Value) (hf : Instr.findNow (.int .i64) (.int .i64 k) es.toList 0 = some none) :
    (Instr.mapUpdate 86 (.map (some w.heap.size)) (.int .i64 k) v).run Tryd.prog (w.alloc (.map es clock)) = .ok () (w.alloc (.map (es.push { key := .int .i64 k, val := v, born := clock }) (clock + 1))) := by
  have hb : (w.alloc (.map es clock)).heap[w.heap.size]? = some (.map es clock) := World.alloc_heap_new w _
  have hs : (setObj w.heap.size (.map (es.push { key := .int .i64 k, val := v, born := clock }) (clock + 1))).run Tryd.prog (w.alloc (.map es clock)) = .ok () (w.alloc (.map (es.push { key := .int .i64 k, val := v, born := clock }) (clock + 1))) := by
    have h1 := MapKept.run_setObj_map (P := Tryd.prog) (.map (es.push { key := .int .i64 k, val := v, born := clock }) (clock + 1)) hb
    exact h1.trans (congrArg (Result.ok ()) (put_last w (.map es clock) _))
  have hkey : MapKept.IsKey (.int .i64) (.int .i64 k) := by simp [MapKept.IsKey]
  simp [Instr.mapUpdate, run_underlying Tryd.underlying86, run_underlying Tryd.underlying3, MapKept.run_getObj_map hb, MapKept.run_checkKey Tryd.underlying3 hkey, Instr.findKey, hf, hs, Result.andThen]

/-- A unit's two functions as a value. -/
abbrev measV (fs fw : Nat) : Value := .agg #[.func (.func fs) #[] #[], .func (.func fw) #[] #[]]
/-- The three units' measures. -/
def measMap : Array MapEntry := #[{ key := .int .i64 1, val := measV 55 56, born := 0 }, { key := .int .i64 2, val := measV 57 56, born := 1 }, { key := .int .i64 3, val := measV 57 58, born := 2 }]

set_option maxRecDepth 100000 in
theorem measures_c (w : World) : Calls Tryd.prog 47 #[] w fun e W' => e = .returned (.map (some w.heap.size)) ∧ W' = w.alloc (.map measMap 3) := by
  have hmm := @run_makeMap Tryd.prog
  have i1 := run_insert_int w #[] 0 1 (measV 55 56) rfl
  have i2 := run_insert_int w #[{ key := .int .i64 1, val := measV 55 56, born := 0 }] 1 2 (measV 57 56) rfl
  have i3 := run_insert_int w #[{ key := .int .i64 1, val := measV 55 56, born := 0 }, { key := .int .i64 2, val := measV 57 56, born := 1 }] 2 3 (measV 57 58) rfl
  simp only [List.push_toArray, List.nil_append, List.cons_append, Nat.reduceAdd] at i1 i2 i3
  go_enter Tryd.func47, Tryd.ntmps47
  go_wp2
  go_ret
  exact ⟨rfl, rfl⟩

/-- A look-up in it. -/
theorem look_some (u : Int) (fs fw i : Nat) (w : World) (m : Nat) (hb : w.heap[m]? = some (.map measMap 3)) (hf : Instr.findNow (.int .i64) (.int .i64 u) measMap.toList 0 = some (some (i, measV fs fw))) :
    (Instr.lookup 86 (.map (some m)) (.int .i64 u) true).run Tryd.prog w = .ok (.tuple #[measV fs fw, .bool true]) w := by
  have hkey : MapKept.IsKey (.int .i64) (.int .i64 u) := by simp [MapKept.IsKey]
  simp [Instr.lookup, run_underlying Tryd.underlying86, MapKept.run_getObj_map hb, MapKept.run_checkKey Tryd.underlying3 hkey, MapKept.run_findKey Tryd.underlying3 hf, Result.andThen]
theorem look_none (u : Int) (w : World) (m : Nat) (hb : w.heap[m]? = some (.map measMap 3)) (hf : Instr.findNow (.int .i64) (.int .i64 u) measMap.toList 0 = some none) :
    (Instr.lookup 86 (.map (some m)) (.int .i64 u) true).run Tryd.prog w = .ok (.tuple #[.agg #[.nilFunc, .nilFunc], .bool false]) w := by
  have hkey : MapKept.IsKey (.int .i64) (.int .i64 u) := by simp [MapKept.IsKey]
  have hz : ∀ w, (zeroValue 52).run Tryd.prog w = .ok (.agg #[.nilFunc, .nilFunc]) w := fun w => by kernel_rfl
  simp [Instr.lookup, run_underlying Tryd.underlying86, MapKept.run_getObj_map hb, MapKept.run_checkKey Tryd.underlying3 hkey, MapKept.run_findKey Tryd.underlying3 hf, Result.andThen, hz]

/-- Which functions a unit's are. -/
def UnitOf (u : Int) (fs fw : Nat) : Prop :=
  (u = 1 ∧ fs = 55 ∧ fw = 56) ∨ (u = 2 ∧ fs = 57 ∧ fw = 56) ∨ (u = 3 ∧ fs = 57 ∧ fw = 58)
theorem unit_of {u : Int} (h : isUnit u = true) : ∃ fs fw, UnitOf u fs fw := by
  have := of_decide_eq_true h
  by_cases h1 : u = 1
  · exact ⟨_, _, .inl ⟨h1, rfl, rfl⟩⟩
  by_cases h2 : u = 2
  · exact ⟨_, _, .inr (.inl ⟨h2, rfl, rfl⟩)⟩
  · exact ⟨_, _, .inr (.inr ⟨by omega, rfl, rfl⟩)⟩

set_option maxRecDepth 100000 in
/-- walk, of a unit. -/
theorem walk_ok (s : ByteArray) (u : Int) (fs fw : Nat) (hu : UnitOf u fs fw) (w : World) :
    Calls Tryd.prog 34 #[.string s, .int .i64 u] w fun e W' => e = .returned (.tuple #[walkV s fs fw, .nilIface]) ∧ Below w.heap.size w W' := by
  have hl := look_some u fs fw (match u with | 1 => 0 | 2 => 1 | _ => 2) ((w.alloc (.cells #[.string ⟨#[]⟩, .nilFunc, .nilFunc] 54)).alloc (.map measMap 3)) (w.heap.size + 1) (by have := World.alloc_heap_new (w.alloc (.cells #[.string ⟨#[]⟩, .nilFunc, .nilFunc] 54)) (.map measMap 3); rw [World.size_alloc] at this; exact this)
    (by rcases hu with ⟨rfl, rfl, rfl⟩ | ⟨rfl, rfl, rfl⟩ | ⟨rfl, rfl, rfl⟩ <;> rfl)
  have hB : Below w.heap.size w (((w.alloc (.cells #[.string s, .func (.func fs) #[] #[], .func (.func fw) #[] #[]] 54)).alloc (.map measMap 3)).alloc (.cells #[.func (.func fs) #[] #[], .func (.func fw) #[] #[]] 52)) := (((Below.refl _ w).alloc (Nat.le_refl _) _).alloc (by simp) _).alloc (by simp; omega) _
  have HB := Lib.hid hB
  clear hB hu
  have s0 : (store ⟨w.heap.size + 1 + 1, 0, none⟩ (.func (.func fs) #[] #[])).run Tryd.prog (((w.alloc (.cells #[.string ⟨#[]⟩, .nilFunc, .nilFunc] 54)).alloc (.map measMap 3)).alloc (.cells #[.nilFunc, .nilFunc] 52)) = .ok () (((w.alloc (.cells #[.string ⟨#[]⟩, .nilFunc, .nilFunc] 54)).alloc (.map measMap 3)).alloc (.cells #[.func (.func fs) #[] #[], .nilFunc] 52)) := by rw [run_store _ _ _ _ _ rfl]; simp [go_sem]
  have s1 : (store ⟨w.heap.size + 1 + 1, 1, none⟩ (.func (.func fw) #[] #[])).run Tryd.prog (((w.alloc (.cells #[.string ⟨#[]⟩, .nilFunc, .nilFunc] 54)).alloc (.map measMap 3)).alloc (.cells #[.func (.func fs) #[] #[], .nilFunc] 52)) = .ok () (((w.alloc (.cells #[.string ⟨#[]⟩, .nilFunc, .nilFunc] 54)).alloc (.map measMap 3)).alloc (.cells #[.func (.func fs) #[] #[], .func (.func fw) #[] #[]] 52)) := by rw [run_store _ _ _ _ _ rfl]; simp [go_sem]
  have s2 : (store ⟨w.heap.size, 0, none⟩ (.string s)).run Tryd.prog (((w.alloc (.cells #[.string ⟨#[]⟩, .nilFunc, .nilFunc] 54)).alloc (.map measMap 3)).alloc (.cells #[.func (.func fs) #[] #[], .func (.func fw) #[] #[]] 52)) = .ok () (((w.alloc (.cells #[.string s, .nilFunc, .nilFunc] 54)).alloc (.map measMap 3)).alloc (.cells #[.func (.func fs) #[] #[], .func (.func fw) #[] #[]] 52)) := by rw [run_store _ _ _ _ _ rfl]; simp [go_sem]
  have s3 : (store ⟨w.heap.size, 1, none⟩ (.func (.func fs) #[] #[])).run Tryd.prog (((w.alloc (.cells #[.string s, .nilFunc, .nilFunc] 54)).alloc (.map measMap 3)).alloc (.cells #[.func (.func fs) #[] #[], .func (.func fw) #[] #[]] 52)) = .ok () (((w.alloc (.cells #[.string s, .func (.func fs) #[] #[], .nilFunc] 54)).alloc (.map measMap 3)).alloc (.cells #[.func (.func fs) #[] #[], .func (.func fw) #[] #[]] 52)) := by rw [run_store _ _ _ _ _ rfl]; simp [go_sem]
  have s4 : (store ⟨w.heap.size, 2, none⟩ (.func (.func fw) #[] #[])).run Tryd.prog (((w.alloc (.cells #[.string s, .func (.func fs) #[] #[], .nilFunc] 54)).alloc (.map measMap 3)).alloc (.cells #[.func (.func fs) #[] #[], .func (.func fw) #[] #[]] 52)) = .ok () (((w.alloc (.cells #[.string s, .func (.func fs) #[] #[], .func (.func fw) #[] #[]] 54)).alloc (.map measMap 3)).alloc (.cells #[.func (.func fs) #[] #[], .func (.func fw) #[] #[]] 52)) := by rw [run_store _ _ _ _ _ rfl]; simp [go_sem]
  go_enter Tryd.func34, Tryd.ntmps34
  go_wp2_with (go_at_call 47; refine (measures_c _).mono ?_; rintro e w' ⟨rfl, rfl⟩)
  refine bodyPost_ret (v := .tuple #[walkV s fs fw, .nilIface]) (by simp [results, Tryd.f34, go_sem]) rfl ⟨rfl, HB.out⟩

set_option maxRecDepth 100000 in
/-- walk, of no unit. -/
theorem walk_no (s : ByteArray) (u : Int) (hu : isUnit u = false) (w : World) :
    Calls Tryd.prog 34 #[.string s, .int .i64 u] w fun e W' => e = .returned (.tuple #[.agg #[.string ⟨#[]⟩, .nilFunc, .nilFunc], faultV 2 wordsU]) ∧ Below w.heap.size w W' := by
  have hu' : ¬ (1 ≤ u ∧ u ≤ 3) := of_decide_eq_false hu
  have n1 : (u == 1) = false := beq_eq_false_iff_ne.2 (by omega)
  have n2 : (u == 2) = false := beq_eq_false_iff_ne.2 (by omega)
  have n3 : (u == 3) = false := beq_eq_false_iff_ne.2 (by omega)
  have hl := look_none u ((w.alloc (.cells #[.string ⟨#[]⟩, .nilFunc, .nilFunc] 54)).alloc (.map measMap 3)) (w.heap.size + 1) (by have := World.alloc_heap_new (w.alloc (.cells #[.string ⟨#[]⟩, .nilFunc, .nilFunc] 54)) (.map measMap 3); rw [World.size_alloc] at this; exact this)
    (by simp [Instr.findNow, Instr.sameNow, measMap, n1, n2, n3])
  have hB : Below w.heap.size w (((w.alloc (.cells #[.string ⟨#[]⟩, .nilFunc, .nilFunc] 54)).alloc (.map measMap 3)).alloc (.cells #[.nilFunc, .nilFunc] 52)) := (((Below.refl _ w).alloc (Nat.le_refl _) _).alloc (by simp) _).alloc (by simp; omega) _
  have HB := Lib.hid hB
  clear hB hu hu' n1 n2 n3
  have s0 : (store ⟨w.heap.size + 1 + 1, 0, none⟩ (.nilFunc)).run Tryd.prog (((w.alloc (.cells #[.string ⟨#[]⟩, .nilFunc, .nilFunc] 54)).alloc (.map measMap 3)).alloc (.cells #[.nilFunc, .nilFunc] 52)) = .ok () (((w.alloc (.cells #[.string ⟨#[]⟩, .nilFunc, .nilFunc] 54)).alloc (.map measMap 3)).alloc (.cells #[.nilFunc, .nilFunc] 52)) := by rw [run_store _ _ _ _ _ rfl]; simp [go_sem]
  have s1 : (store ⟨w.heap.size + 1 + 1, 1, none⟩ (.nilFunc)).run Tryd.prog (((w.alloc (.cells #[.string ⟨#[]⟩, .nilFunc, .nilFunc] 54)).alloc (.map measMap 3)).alloc (.cells #[.nilFunc, .nilFunc] 52)) = .ok () (((w.alloc (.cells #[.string ⟨#[]⟩, .nilFunc, .nilFunc] 54)).alloc (.map measMap 3)).alloc (.cells #[.nilFunc, .nilFunc] 52)) := by rw [run_store _ _ _ _ _ rfl]; simp [go_sem]
  have s2 : (store ⟨w.heap.size, 0, none⟩ (.string ⟨#[]⟩)).run Tryd.prog (((w.alloc (.cells #[.string ⟨#[]⟩, .nilFunc, .nilFunc] 54)).alloc (.map measMap 3)).alloc (.cells #[.nilFunc, .nilFunc] 52)) = .ok () (((w.alloc (.cells #[.string ⟨#[]⟩, .nilFunc, .nilFunc] 54)).alloc (.map measMap 3)).alloc (.cells #[.nilFunc, .nilFunc] 52)) := by rw [run_store _ _ _ _ _ rfl]; simp [go_sem]
  have s3 : (store ⟨w.heap.size, 1, none⟩ (.nilFunc)).run Tryd.prog (((w.alloc (.cells #[.string ⟨#[]⟩, .nilFunc, .nilFunc] 54)).alloc (.map measMap 3)).alloc (.cells #[.nilFunc, .nilFunc] 52)) = .ok () (((w.alloc (.cells #[.string ⟨#[]⟩, .nilFunc, .nilFunc] 54)).alloc (.map measMap 3)).alloc (.cells #[.nilFunc, .nilFunc] 52)) := by rw [run_store _ _ _ _ _ rfl]; simp [go_sem]
  have s4 : (store ⟨w.heap.size, 2, none⟩ (.nilFunc)).run Tryd.prog (((w.alloc (.cells #[.string ⟨#[]⟩, .nilFunc, .nilFunc] 54)).alloc (.map measMap 3)).alloc (.cells #[.nilFunc, .nilFunc] 52)) = .ok () (((w.alloc (.cells #[.string ⟨#[]⟩, .nilFunc, .nilFunc] 54)).alloc (.map measMap 3)).alloc (.cells #[.nilFunc, .nilFunc] 52)) := by rw [run_store _ _ _ _ _ rfl]; simp [go_sem]
  go_enter Tryd.func34, Tryd.ntmps34
  go_wp2_with (first | (go_at_call 47; refine (measures_c _).mono ?_; rintro e w' ⟨rfl, rfl⟩) | (go_at_call 48; refine (noUnit_c _).mono ?_; rintro e w' ⟨rfl, rfl⟩))
  refine bodyPost_ret (v := .tuple #[.agg #[.string ⟨#[]⟩, .nilFunc, .nilFunc], faultV 2 wordsU]) (by simp [results, Tryd.f34, go_sem]) rfl ⟨rfl, HB.out⟩

/-! ### The measures' functions -/
set_option maxRecDepth 100000 in
theorem one_c (n : Nat) (w : World) : Calls Tryd.prog 56 #[.int .i64 (n : Int)] w fun e w' => e = .returned (.int .i64 1) ∧ w = w' := by
  go_enter Tryd.func56, Tryd.ntmps56
  go_wp2
  go_ret
  exact ⟨rfl, rfl⟩
set_option maxRecDepth 100000 in
theorem byte_c (s : ByteArray) (w : World) : Calls Tryd.prog 55 #[.string s] w fun e w' => e = .returned (.int .i64 1) ∧ w = w' := by
  go_enter Tryd.func55, Tryd.ntmps55
  go_wp2
  go_ret
  exact ⟨rfl, rfl⟩
set_option maxRecDepth 100000 in
theorem wide_c (n : Nat) (w : World) : Calls Tryd.prog 58 #[.int .i64 (n : Int)] w fun e w' => e = .returned (.int .i64 ((if n = 4 then 2 else 1 : Nat) : Int)) ∧ w = w' := by
  by_cases h : n = 4
  · have t : ((n : Int) == 4) = true := by rw [h]; rfl
    rw [if_pos h]
    clear h
    go_enter Tryd.func58, Tryd.ntmps58
    go_wp2
    go_ret
    exact ⟨rfl, rfl⟩
  · have t : ((n : Int) == 4) = false := beq_eq_false_iff_ne.2 (by omega)
    rw [if_neg h]
    clear h
    go_enter Tryd.func58, Tryd.ntmps58
    go_wp2
    go_ret
    exact ⟨rfl, rfl⟩

theorem measure_of {u : Int} {fs fw : Nat} (h : UnitOf u fs fw) : Measure u fs fw := by
  rcases h with ⟨rfl, rfl, rfl⟩ | ⟨rfl, rfl, rfl⟩ | ⟨rfl, rfl, rfl⟩
  · refine ⟨Go.Proofs.enters_of Tryd.func55 (by kernel_rfl) rfl, Go.Proofs.enters_of Tryd.func56 (by kernel_rfl) rfl, fun s w _ => (byte_c s w).mono ?_, fun n w hn => ?_⟩
    · rintro e w' ⟨rfl, rfl⟩
      exact ⟨rfl, Below.refl _ _⟩
    · obtain rfl := hn rfl
      exact (one_c 1 w).mono fun e w' h => h
  · refine ⟨Go.Proofs.enters_of Tryd.func57 (by kernel_rfl) rfl, Go.Proofs.enters_of Tryd.func56 (by kernel_rfl) rfl, fun s w hT => runeSize_c s w hT, fun n w _ => ?_⟩
    exact (one_c n w).mono fun e w' h => h
  · refine ⟨Go.Proofs.enters_of Tryd.func57 (by kernel_rfl) rfl, Go.Proofs.enters_of Tryd.func58 (by kernel_rfl) rfl, fun s w hT => runeSize_c s w hT, fun n w _ => ?_⟩
    have := wide_c n w
    rw [show (if n = 4 then 2 else 1 : Nat) = sizeOfU n 3 by unfold sizeOfU; rw [if_neg (show ¬ (3 : Int) = 1 by decide)]; by_cases h4 : n = 4 <;> simp [h4]] at this
    exact this
end Go.Proofs.YtaahhilnkffdlaaDoor
