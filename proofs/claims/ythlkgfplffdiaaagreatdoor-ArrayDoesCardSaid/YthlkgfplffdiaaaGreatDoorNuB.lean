/- Merged by gen/ar_merge.py: NuPass, NuMap, NuChk, NuProd, NuTimes, NuRes, NuHolds. -/
import Derived.Test.YthlkgfplffdiaaaGreatDoorNuA
import Derived.Shelf.AbstractIn
import Derived.Maps.Own
import Derived.Deep.RegionHeldLaw
import Derived.BigQuiet
import Derived.Deep.QuietTactic
import Derived.Scope
/- number's checker: pass, by no check, one, two. -/
namespace Go.Proofs.YthlkgfplffdiaaaGreatDoor.Nu
open Go Go.RowKit Go.Shelf
attribute [local go_sem] Oper.semAt_some

/-- A pair of numbers. -/
abbrev pairV (x y : Int) : Value := .agg #[.int .i64 x, .int .i64 y]
/-- A checker of two numbers; a function's value. -/
abbrev chkV (x y : Int) : Value := .agg #[.int .i64 x, .int .i64 y]
/-- Nothing is wrong. -/
def okV : Value → Bool
  | .nilIface => true
  | _ => false
abbrev fnV (k : Nat) : Value := .func (.func k) #[] #[]
/-- The number, if nothing is wrong. -/
def okR (v : Value) (n : Int) : Int := if okV v then n else 0
/-- A check that may be called, and what it tells of x and y. -/
structure Chk (W : World) (x y : Int) (k : Nat) (v : Value) : Prop where
  enters : ∀ args w, (callFunc k args).run Tryz.prog w = .ok (.enter k args) w
  call : ∀ W', Below W.heap.size W W' → Calls Tryz.prog k #[pairV x y] W' fun e W2 => e = .returned v ∧ Below W'.heap.size W' W2
set_option maxRecDepth 100000 in
theorem pass_0 (x y n : Int) (w : World) : Calls Tryz.prog 91 #[chkV x y, .int .i64 n, .slice none 0 0] w fun e w' => e = .returned (.tuple #[.int .i64 n, .nilIface]) ∧ Below w.heap.size w w' := by
  have HB := Lib.hid ((Below.refl w.heap.size w).alloc (Nat.le_refl _) (.cells #[.int .i64 x, .int .i64 y] 119))
  go_enter Tryz.func91, Tryz.ntmps91
  go_wp2
  refine wp_loop_rounds 1 ?_
  rw [rounds_succ]
  go_wp2
  go_ret2
  exact ⟨rfl, HB.out⟩
set_option maxRecDepth 100000 in
theorem pass_1 (x y n : Int) (w : World) (b k : Nat) (v : Value) (hb : w.cell? ⟨b, 0, none⟩ = some (fnV k)) (hbl : b < w.heap.size) (hC : Chk w x y k v) (hv : v = .nilIface ∨ ∃ t z, v = .iface t z) : Calls Tryz.prog 91 #[chkV x y, .int .i64 n, .slice (some ⟨b, 0, none⟩) 1 1] w fun e w' => e = .returned (.tuple #[.int .i64 (okR v n), v]) ∧ Below w.heap.size w w' := by
  have hb0 := (Below.refl w.heap.size w).alloc (Nat.le_refl _) (.cells #[.int .i64 x, .int .i64 y] 119)
  have HB := Lib.hid hb0
  have eo := hC.enters
  have HC := Lib.hid (hC.call _ hb0)
  have hc := (hb0.cell (p := ⟨b, 0, none⟩) hbl).trans hb
  have c1 : (w.alloc (.cells #[.int .i64 x, .int .i64 y] 119)).cell? ⟨w.heap.size, 0, none⟩ = some (.int .i64 x) := by simp
  have c2 : (w.alloc (.cells #[.int .i64 x, .int .i64 y] 119)).cell? ⟨w.heap.size, 1, none⟩ = some (.int .i64 y) := by simp
  clear hb0 hC hb
  rcases hv with rfl | ⟨t, z, rfl⟩
  · go_enter Tryz.func91, Tryz.ntmps91
    go_wp2
    refine wp_loop_rounds 2 ?_
    rw [rounds_succ]
    go_wp2_with (go_at_fn k; refine HC.out.mono ?_; rintro e w2 ⟨rfl, hb2⟩; have HB2 := Lib.hid hb2; clear hb2)
    rw [rounds_succ]
    go_wp2
    go_ret2
    exact ⟨rfl, HB.out.trans (HB2.out.mono (by simp))⟩
  · go_enter Tryz.func91, Tryz.ntmps91
    go_wp2
    refine wp_loop_rounds 2 ?_
    rw [rounds_succ]
    go_wp2_with (go_at_fn k; refine HC.out.mono ?_; rintro e w2 ⟨rfl, hb2⟩; have HB2 := Lib.hid hb2; clear hb2)
    go_ret2
    exact ⟨rfl, HB.out.trans (HB2.out.mono (by simp))⟩
theorem Chk.mono {W W' : World} {x y : Int} {k : Nat} {v : Value} (h : Chk W x y k v) (hb : Below W.heap.size W W') : Chk W' x y k v := ⟨h.enters, fun W2 h2 => h.call W2 (hb.trans (h2.mono hb.size))⟩
set_option maxRecDepth 100000 in
theorem pass_2 (x y n : Int) (w : World) (b k k2 : Nat) (v v2 : Value) (hb : w.cell? ⟨b, 0, none⟩ = some (fnV k)) (hb2 : w.cell? ⟨b, 1, none⟩ = some (fnV k2)) (hbl : b < w.heap.size) (hC : Chk w x y k v) (hC2 : Chk w x y k2 v2) (hv : v = .nilIface ∨ ∃ t z, v = .iface t z) (hv2 : v2 = .nilIface ∨ ∃ t z, v2 = .iface t z) : Calls Tryz.prog 91 #[chkV x y, .int .i64 n, .slice (some ⟨b, 0, none⟩) 2 2] w fun e w' => e = .returned (if okV v then .tuple #[.int .i64 (okR v2 n), v2] else .tuple #[.int .i64 0, v]) ∧ Below w.heap.size w w' := by
  have hb0 := (Below.refl w.heap.size w).alloc (Nat.le_refl _) (.cells #[.int .i64 x, .int .i64 y] 119)
  have HB := Lib.hid hb0
  have eo := hC.enters
  have eo2 := hC2.enters
  have HC := Lib.hid (hC.call _ hb0)
  have HC2 := Lib.hid (hC2.mono hb0).call
  have c1 : (w.alloc (.cells #[.int .i64 x, .int .i64 y] 119)).cell? ⟨w.heap.size, 0, none⟩ = some (.int .i64 x) := by simp
  have c2 : (w.alloc (.cells #[.int .i64 x, .int .i64 y] 119)).cell? ⟨w.heap.size, 1, none⟩ = some (.int .i64 y) := by simp
  have hlt : b < (w.alloc (.cells #[.int .i64 x, .int .i64 y] 119)).heap.size := Nat.lt_of_lt_of_le hbl hb0.size
  have hc := (hb0.cell (p := ⟨b, 0, none⟩) hbl).trans hb
  have hc2 := (hb0.cell (p := ⟨b, 1, none⟩) hbl).trans hb2
  obtain ⟨W, hW⟩ : ∃ W, W = w.alloc (.cells #[.int .i64 x, .int .i64 y] 119) := ⟨_, rfl⟩
  have HCELL : Hid (∀ W2, Below W.heap.size W W2 → W2.cell? ⟨b, 1, none⟩ = some (fnV k2) ∧ W2.cell? ⟨w.heap.size, 0, none⟩ = some (.int .i64 x) ∧ W2.cell? ⟨w.heap.size, 1, none⟩ = some (.int .i64 y)) := Lib.hid (fun W2 h => by
    have hl : w.heap.size < W.heap.size := by rw [hW]; simp
    rw [← hW] at hc2 c1 c2 hlt
    exact ⟨(h.cell (p := ⟨b, 1, none⟩) hlt).trans hc2, (h.cell (p := ⟨w.heap.size, 0, none⟩) hl).trans c1, (h.cell (p := ⟨w.heap.size, 1, none⟩) hl).trans c2⟩)
  rw [hW] at HCELL
  clear hb0 hC hC2 hb hb2 hc2 hW W
  rcases hv with rfl | ⟨t, z, rfl⟩
  · rcases hv2 with rfl | ⟨t, z, rfl⟩
    · go_enter Tryz.func91, Tryz.ntmps91
      go_wp2
      refine wp_loop_rounds 3 ?_
      rw [rounds_succ]
      go_wp2_with (go_at_fn k; refine HC.out.mono ?_; rintro e w2 ⟨rfl, hb2⟩; have HB2 := Lib.hid hb2; obtain ⟨d0, d1, d2⟩ := HCELL.out _ hb2; clear hb2)
      rw [rounds_succ]
      go_wp2_with (go_at_fn k2; refine (HC2.out _ HB2.out).mono ?_; rintro e w3 ⟨rfl, hb3⟩; have HB3 := Lib.hid (HB2.out.trans (hb3.mono HB2.out.size)); clear hb3)
      rw [rounds_succ]
      go_wp2
      go_ret2
      exact ⟨rfl, HB.out.trans (HB3.out.mono (by simp))⟩
    · go_enter Tryz.func91, Tryz.ntmps91
      go_wp2
      refine wp_loop_rounds 3 ?_
      rw [rounds_succ]
      go_wp2_with (go_at_fn k; refine HC.out.mono ?_; rintro e w2 ⟨rfl, hb2⟩; have HB2 := Lib.hid hb2; obtain ⟨d0, d1, d2⟩ := HCELL.out _ hb2; clear hb2)
      rw [rounds_succ]
      go_wp2_with (go_at_fn k2; refine (HC2.out _ HB2.out).mono ?_; rintro e w3 ⟨rfl, hb3⟩; have HB3 := Lib.hid (HB2.out.trans (hb3.mono HB2.out.size)); clear hb3)
      go_ret2
      exact ⟨rfl, HB.out.trans (HB3.out.mono (by simp))⟩
  · go_enter Tryz.func91, Tryz.ntmps91
    go_wp2
    refine wp_loop_rounds 2 ?_
    rw [rounds_succ]
    go_wp2_with (go_at_fn k; refine HC.out.mono ?_; rintro e w2 ⟨rfl, hb2⟩; have HB2 := Lib.hid hb2; clear hb2)
    go_ret2
    exact ⟨rfl, HB.out.trans (HB2.out.mono (by simp))⟩
end Go.Proofs.YthlkgfplffdiaaaGreatDoor.Nu
/- Number's maps of glyphs: what a look-up and an insertion answer. -/
namespace Go.Proofs.YthlkgfplffdiaaaGreatDoor.Nu
open Go Go.RowKit Go.Shelf
attribute [local go_sem] Oper.semAt_some

def ent (x : (ByteArray × Value) × Nat) : MapEntry := ⟨.string x.1.1, x.1.2, x.2⟩
def entL (l : List (ByteArray × Value)) : List MapEntry := l.zipIdx.map ent
theorem entL_snoc (l : List (ByteArray × Value)) (k : ByteArray) (v : Value) : entL (l ++ [(k, v)]) = entL l ++ [⟨.string k, v, l.length⟩] := by
  unfold entL
  rw [List.zipIdx_append, List.map_append]
  simp [ent]
def ask (s : ByteArray) : List ((ByteArray × Value) × Nat) → Nat → Option (Nat × Value)
  | [], _ => none
  | x :: E, i => if s = x.1.1 then some (i, x.1.2) else ask s E (i + 1)
theorem ask_now (s : ByteArray) : ∀ (E : List ((ByteArray × Value) × Nat)) (i : Nat), Instr.findNow .string (.string s) (E.map ent) i = some (ask s E i)
  | [], _ => rfl
  | x :: E, i => by
    have ih := ask_now s E (i + 1)
    simp only [List.map_cons, Instr.findNow, ent, Instr.sameNow, ask]
    by_cases h : s = x.1.1
    · have : (s == x.1.1) = true := (Go.MapKept.bytes_beq _ _).2 h
      rw [this, if_pos h]
    · have : (s == x.1.1) = false := by
        cases hb : (s == x.1.1)
        · rfl
        · exact absurd ((Go.MapKept.bytes_beq _ _).1 hb) h
      rw [this, if_neg h]
      exact ih
theorem find_s (s : ByteArray) (l : List (ByteArray × Value)) (W : World) : (Instr.findKey 9 (.string s) (entL l)).run Tryz.prog W = .ok (ask s l.zipIdx 0) W := by
  have h := ask_now s l.zipIdx 0
  unfold entL
  simp [Instr.findKey, run_underlying Tryz.underlying9, h, Result.andThen]
theorem check_s (W : World) (e : Bool) (s : ByteArray) : (Instr.checkKey e 10000 9 (.string s)).run Tryz.prog W = .ok () W :=
  Go.MapKept.run_checkKey (n := 9999) Tryz.underlying9 (by first | exact trivial | simp [Go.MapKept.IsKey]) e
/-- THE MAP LIES in block m. -/
def MapAt (W : World) (m : Nat) (l : List (ByteArray × Value)) : Prop := W.heap[m]? = some (.map (entL l).toArray l.length)
theorem MapAt.lt {W : World} {m : Nat} {l : List (ByteArray × Value)} (h : MapAt W m l) : m < W.heap.size := (Array.getElem?_eq_some_iff.1 h).1
theorem MapAt.below {W W' : World} {m : Nat} {l : List (ByteArray × Value)} (h : MapAt W m l) (hb : Below W.heap.size W W') : MapAt W' m l := (hb.block m h.lt).trans h
/-- What a look-up answers. -/
def ansF (r : Option (Nat × Value)) : Value := match r with
  | some x => .tuple #[x.2, .bool true]
  | none => .tuple #[.nilFunc, .bool false]
theorem look_map {W : World} {m : Nat} {l : List (ByteArray × Value)} (h : MapAt W m l) (s : ByteArray) :
    (Instr.lookup 122 (.map (some m)) (.string s) true).run Tryz.prog W = .ok (ansF (ask s l.zipIdx 0)) W := by
  have h1 := find_s s l W
  have h3 := fun e => check_s W e s
  cases hr : ask s l.zipIdx 0 with
  | none =>
    rw [hr] at h1
    simp [Instr.lookup, run_underlying Tryz.underlying122, Go.MapKept.run_getObj_map h, h3, h1, Result.andThen, Tryz.zeroValue85, ansF]
  | some x =>
    rw [hr] at h1
    simp [Instr.lookup, run_underlying Tryz.underlying122, Go.MapKept.run_getObj_map h, h3, h1, Result.andThen, ansF]
/-- All blocks but m stay. -/
def Kp (m : Nat) (W W' : World) : Prop := W.heap.size ≤ W'.heap.size ∧ ∀ q, q ≠ m → q < W.heap.size → W'.heap[q]? = W.heap[q]?
theorem Kp.trans {m : Nat} {W W' W2 : World} (h : Kp m W W') (h2 : Kp m W' W2) : Kp m W W2 := ⟨Nat.le_trans h.1 h2.1, fun q hq hl => (h2.2 q hq (Nat.lt_of_lt_of_le hl h.1)).trans (h.2 q hq hl)⟩
theorem Kp.alloc (m : Nat) (W : World) (o : Obj) : Kp m W (W.alloc o) := ⟨by rw [World.size_alloc]; exact Nat.le_succ _, fun q _ hl => Below.heap_alloc W o q hl⟩
theorem ins_map {W : World} {m : Nat} {l : List (ByteArray × Value)} (h : MapAt W m l) (k : ByteArray) (v : Value) (hn : ask k l.zipIdx 0 = none) :
    ∃ W', (Instr.mapUpdate 122 (.map (some m)) (.string k) v).run Tryz.prog W = .ok () W' ∧ MapAt W' m (l ++ [(k, v)]) ∧ (∀ n, n ≤ m → Below n W W') ∧ Kp m W W' := by
  have h1 := find_s k l W
  rw [hn] at h1
  have hlt := h.lt
  have hp : ((entL l).toArray).push { key := .string k, val := v, born := l.length } = (entL (l ++ [(k, v)])).toArray := by rw [entL_snoc]; simp
  refine ⟨{ W with heap := W.heap.setIfInBounds m (.map (entL (l ++ [(k, v)])).toArray (l ++ [(k, v)]).length) }, ?_, ?_, fun n hn' => ⟨rfl, rfl, rfl, by simp, fun q hq => ?_⟩, by simp, fun q hq _ => ?_⟩
  · have h4 : (Instr.checkKey false 10000 9 (.string k)).run Tryz.prog W = .ok () W := check_s _ _ _
    simp [Instr.mapUpdate, run_underlying Tryz.underlying122, Go.MapKept.run_getObj_map h, h4, h1, Go.MapKept.run_setObj_map _ h, Result.andThen, hp]
  · show (W.heap.setIfInBounds m _)[m]? = _
    rw [Array.getElem?_setIfInBounds_self_of_lt hlt]
  · show (W.heap.setIfInBounds m _)[q]? = _
    rw [Array.getElem?_setIfInBounds_ne (by omega)]
  · show (W.heap.setIfInBounds m _)[q]? = _
    rw [Array.getElem?_setIfInBounds_ne (fun e => hq e.symm)]
/-- A map that is made, entry by entry. -/
theorem new_map (w : World) : MapAt (w.alloc (.map #[] 0)) w.heap.size [] := World.alloc_heap_new w _
end Go.Proofs.YthlkgfplffdiaaaGreatDoor.Nu
/- number's checks. -/
namespace Go.Proofs.YthlkgfplffdiaaaGreatDoor.Nu
open Go Go.RowKit



abbrev failV (b : Bool) : Value := if b then .nilIface else faultV 100
set_option maxRecDepth 100000 in
theorem fits_c (b : Bool) (w : World) : Calls Tryz.prog 121 #[.bool b] w fun e w' => e = .returned (failV b) ∧ w = w' := by
  cases b
  · go_enter Tryz.func121, Tryz.ntmps121
    go_wp2
    go_ret
    exact ⟨rfl, rfl⟩
  · go_enter Tryz.func121, Tryz.ntmps121
    go_wp2
    go_ret
    exact ⟨rfl, rfl⟩
set_option maxRecDepth 100000 in
theorem isBit_c (n : Int) (w : World) : Calls Tryz.prog 122 #[.int .i64 n] w fun e w' => e = .returned (.bool (isB n)) ∧ w = w' := by
  by_cases h0 : n = 0
  · subst h0
    go_enter Tryz.func122, Tryz.ntmps122
    go_wp2
    go_ret
    exact ⟨rfl, rfl⟩
  · have t0 : (n == 0) = false := by simp [h0]
    have h1 : isB n = (n == 1) := by simp [isB, h0, Bool.beq_eq_decide_eq]
    rw [h1]
    go_enter Tryz.func122, Tryz.ntmps122
    go_wp2
    go_ret
    exact ⟨rfl, rfl⟩
set_option maxRecDepth 100000 in
theorem sumFits_c (x y : Int) (hx : In x) (hy : In y) (w : World) : Calls Tryz.prog 125 #[pairV x y] w fun e w' => e = .returned (failV (decide (In (x + y)))) ∧ Below w.heap.size w w' := by
  have HB := Lib.hid ((Below.refl w.heap.size w).alloc (Nat.le_refl _) (.cells #[.int .i64 x, .int .i64 y] 95))
  have HF := Lib.hid (fun b w => fits_c b w)
  go_enter Tryz.func125, Tryz.ntmps125
  go_wp2_with (go_at_call 121; refine (HF.out _ _).mono ?_; rintro e w' ⟨rfl, rfl⟩)
  go_ret
  exact ⟨congrArg (fun b => Ending.returned (failV b)) (sum_fits hx hy), HB.out⟩
set_option maxRecDepth 100000 in
theorem difFits_c (x y : Int) (hx : In x) (hy : In y) (w : World) : Calls Tryz.prog 127 #[pairV x y] w fun e w' => e = .returned (failV (decide (In (x - y)))) ∧ Below w.heap.size w w' := by
  have HB := Lib.hid ((Below.refl w.heap.size w).alloc (Nat.le_refl _) (.cells #[.int .i64 x, .int .i64 y] 95))
  have HF := Lib.hid (fun b w => fits_c b w)
  go_enter Tryz.func127, Tryz.ntmps127
  go_wp2_with (go_at_call 121; refine (HF.out _ _).mono ?_; rintro e w' ⟨rfl, rfl⟩)
  go_ret
  exact ⟨congrArg (fun b => Ending.returned (failV b)) (dif_fits hx hy), HB.out⟩
set_option maxRecDepth 100000 in
theorem oppFits_c (x y : Int) (hy : In y) (w : World) : Calls Tryz.prog 92 #[pairV x y] w fun e w' => e = .returned (failV (decide (In (-y)))) ∧ Below w.heap.size w w' := by
  have HB := Lib.hid ((Below.refl w.heap.size w).alloc (Nat.le_refl _) (.cells #[.int .i64 x, .int .i64 y] 95))
  have HF := Lib.hid (fun b w => fits_c b w)
  go_enter Tryz.func92, Tryz.ntmps92
  go_wp2_with (go_at_call 121; refine (HF.out _ _).mono ?_; rintro e w' ⟨rfl, rfl⟩)
  go_ret
  exact ⟨congrArg (fun b => Ending.returned (failV b)) (opp_fits hy), HB.out⟩
set_option maxRecDepth 100000 in
theorem quoFits_c (x y : Int) (w : World) : Calls Tryz.prog 131 #[pairV x y] w fun e w' => e = .returned (failV (x != -9223372036854775808 || y != -1)) ∧ Below w.heap.size w w' := by
  have HB := Lib.hid ((Below.refl w.heap.size w).alloc (Nat.le_refl _) (.cells #[.int .i64 x, .int .i64 y] 95))
  have HF := Lib.hid (fun b w => fits_c b w)
  cases t1 : (x != -9223372036854775808)
  · simp only [Bool.false_or]
    go_enter Tryz.func131, Tryz.ntmps131
    go_wp2_with (go_at_call 121; refine (HF.out _ _).mono ?_; rintro e w' ⟨rfl, rfl⟩)
    go_ret
    exact ⟨rfl, HB.out⟩
  · simp only [Bool.true_or]
    go_enter Tryz.func131, Tryz.ntmps131
    go_wp2_with (go_at_call 121; refine (HF.out _ _).mono ?_; rintro e w' ⟨rfl, rfl⟩)
    go_ret
    exact ⟨rfl, HB.out⟩
set_option maxRecDepth 100000 in
theorem divides_c (x y : Int) (w : World) : Calls Tryz.prog 97 #[pairV x y] w fun e w' => e = .returned (if (divR x y).2 = 101 then faultV 101 else .nilIface) ∧ Below w.heap.size w w' := by
  have HB := Lib.hid ((Below.refl w.heap.size w).alloc (Nat.le_refl _) (.cells #[.int .i64 x, .int .i64 y] 95))
  by_cases h0 : y = 0
  · have t0 : (y == 0) = true := by simp [h0]
    have t2 : (y != 0) = false := by simp [h0]
    by_cases h1 : x = 0
    · have t1 : (x != 0) = false := by simp [h1]
      have he : ¬ (divR x y).2 = 101 := by simp [divR, h0, h1]
      rw [if_neg he]
      clear h0 h1 he
      go_enter Tryz.func97, Tryz.ntmps97
      go_wp2
      go_ret
      exact ⟨rfl, HB.out⟩
    · have t1 : (x != 0) = true := by simp [h1]
      have he : (divR x y).2 = 101 := by simp [divR, h0, h1]
      rw [if_pos he]
      clear h0 h1 he
      go_enter Tryz.func97, Tryz.ntmps97
      go_wp2
      go_ret
      exact ⟨rfl, HB.out⟩
  · have t0 : (y == 0) = false := by simp [h0]
    have t2 : (y != 0) = true := by simp [h0]
    by_cases h1 : x.tmod y = 0
    · have t1 : (x.tmod y != 0) = false := by simp [h1]
      have he : ¬ (divR x y).2 = 101 := by
        simp only [divR, if_neg h0, if_pos h1, ovr]
        split <;> simp
      rw [if_neg he]
      clear h1 he
      go_enter Tryz.func97, Tryz.ntmps97
      go_wp2
      go_ret
      exact ⟨rfl, HB.out⟩
    · have t1 : (x.tmod y != 0) = true := by simp [h1]
      have he : (divR x y).2 = 101 := by simp [divR, h0, h1]
      rw [if_pos he]
      clear h1 he
      go_enter Tryz.func97, Tryz.ntmps97
      go_wp2
      go_ret
      exact ⟨rfl, HB.out⟩
set_option maxRecDepth 100000 in
theorem size_c (x : Int) (hx : In x) (w : World) : Calls Tryz.prog 153 #[.int .i64 x] w fun e w' => e = .returned (.int .u64 ((x.natAbs : Nat) : Int)) ∧ w = w' := by
  by_cases h0 : x < 0
  · have he : IntKind.u64.wrap (-IntKind.u64.wrap x) = ((x.natAbs : Nat) : Int) := by rw [IntKind.wrap_u64, IntKind.wrap_u64]; omega
    go_enter Tryz.func153, Tryz.ntmps153
    go_wp2
    go_ret
    exact ⟨rfl, rfl⟩
  · have he : x = ((x.natAbs : Nat) : Int) := by omega
    have HE := Lib.hid he
    clear he
    go_enter Tryz.func153, Tryz.ntmps153
    go_wp2
    go_ret
    exact ⟨congrArg (fun b => Ending.returned (.int .u64 b)) HE.out, rfl⟩
set_option maxRecDepth 100000 in
theorem sign_c (x y : Int) (w : World) : Calls Tryz.prog 94 #[pairV x y] w fun e w' => e = .returned (.int .i64 y.sign) ∧ Below w.heap.size w w' := by
  have HB := Lib.hid ((Below.refl w.heap.size w).alloc (Nat.le_refl _) (.cells #[.int .i64 x, .int .i64 y] 95))
  rcases Int.lt_trichotomy y 0 with h | h | h
  · have he : y.sign = -1 := Int.sign_eq_neg_one_of_neg h
    have t1 : ¬ 0 < y := by omega
    rw [he]
    go_enter Tryz.func94, Tryz.ntmps94
    go_wp2
    go_ret
    exact ⟨rfl, HB.out⟩
  · subst h
    have he : (0 : Int).sign = 0 := rfl
    rw [he]
    go_enter Tryz.func94, Tryz.ntmps94
    go_wp2
    go_ret
    exact ⟨rfl, HB.out⟩
  · have he : y.sign = 1 := Int.sign_eq_one_of_pos h
    rw [he]
    go_enter Tryz.func94, Tryz.ntmps94
    go_wp2
    go_ret
    exact ⟨rfl, HB.out⟩
def quoR (x y : Int) : Int := if y = 0 then 1 else wrap64 (x.tdiv y)
set_option maxRecDepth 100000 in
theorem quotient_c (x y : Int) (w : World) : Calls Tryz.prog 96 #[pairV x y] w fun e w' => e = .returned (.int .i64 (quoR x y)) ∧ Below w.heap.size w w' := by
  have HB := Lib.hid ((Below.refl w.heap.size w).alloc (Nat.le_refl _) (.cells #[.int .i64 x, .int .i64 y] 95))
  by_cases h0 : y = 0
  · have t0 : (y == 0) = true := by simp [h0]
    have he : quoR x y = 1 := by simp [quoR, h0]
    rw [he]
    clear h0 he
    go_enter Tryz.func96, Tryz.ntmps96
    go_wp2
    go_ret
    exact ⟨rfl, HB.out⟩
  · have t0 : (y == 0) = false := by simp [h0]
    have he : quoR x y = wrap64 (x.tdiv y) := by simp [quoR, h0]
    rw [he]
    clear he
    go_enter Tryz.func96, Tryz.ntmps96
    go_wp2
    go_ret
    exact ⟨rfl, HB.out⟩
set_option maxRecDepth 100000 in
theorem digit_c (n k : Nat) (hn : n < 18446744073709551616) (hk : k < 8) (w : World) : Calls Tryz.prog 169 #[.int .u64 (n : Int), .int .i64 (k : Int)] w fun e w' => e = .returned (.int .u64 ((dg n k : Nat) : Int)) ∧ w = w' := by
  rcases (by omega : k = 0 ∨ k = 1 ∨ k = 2 ∨ k = 3 ∨ k = 4 ∨ k = 5 ∨ k = 6 ∨ k = 7) with rfl | rfl | rfl | rfl | rfl | rfl | rfl | rfl
  · have he : bits .and .u64 (n : Int) 65535 = ((dg n 0 : Nat) : Int) := by simpa [dg] using mask_u64 n hn
    have HE := Lib.hid he
    clear he
    go_enter Tryz.func169, Tryz.ntmps169
    go_wp2
    go_ret
    exact ⟨congrArg (fun b => Ending.returned (.int .u64 b)) HE.out, rfl⟩
  · have he : bits .and .u64 ((n : Int) / 65536) 65535 = ((dg n 1 : Nat) : Int) := dig_div n 65536 hn
    have HE := Lib.hid he
    clear he
    go_enter Tryz.func169, Tryz.ntmps169
    go_wp2
    go_ret
    exact ⟨congrArg (fun b => Ending.returned (.int .u64 b)) HE.out, rfl⟩
  · have he : bits .and .u64 ((n : Int) / 4294967296) 65535 = ((dg n 2 : Nat) : Int) := dig_div n 4294967296 hn
    have HE := Lib.hid he
    clear he
    go_enter Tryz.func169, Tryz.ntmps169
    go_wp2
    go_ret
    exact ⟨congrArg (fun b => Ending.returned (.int .u64 b)) HE.out, rfl⟩
  · have he : bits .and .u64 ((n : Int) / 281474976710656) 65535 = ((dg n 3 : Nat) : Int) := dig_div n 281474976710656 hn
    have HE := Lib.hid he
    clear he
    go_enter Tryz.func169, Tryz.ntmps169
    go_wp2
    go_ret
    exact ⟨congrArg (fun b => Ending.returned (.int .u64 b)) HE.out, rfl⟩
  · have he : bits .and .u64 ((n : Int) / 18446744073709551616) 65535 = ((dg n 4 : Nat) : Int) := by rw [big_div n 4 hn (by omega), show ((n : Int) / 18446744073709551616) = 0 by omega]; decide
    have HE := Lib.hid he
    clear he
    go_enter Tryz.func169, Tryz.ntmps169
    go_wp2
    go_ret
    exact ⟨congrArg (fun b => Ending.returned (.int .u64 b)) HE.out, rfl⟩
  · have he : bits .and .u64 ((n : Int) / 18446744073709551616) 65535 = ((dg n 5 : Nat) : Int) := by rw [big_div n 5 hn (by omega), show ((n : Int) / 18446744073709551616) = 0 by omega]; decide
    have HE := Lib.hid he
    clear he
    go_enter Tryz.func169, Tryz.ntmps169
    go_wp2
    go_ret
    exact ⟨congrArg (fun b => Ending.returned (.int .u64 b)) HE.out, rfl⟩
  · have he : bits .and .u64 ((n : Int) / 18446744073709551616) 65535 = ((dg n 6 : Nat) : Int) := by rw [big_div n 6 hn (by omega), show ((n : Int) / 18446744073709551616) = 0 by omega]; decide
    have HE := Lib.hid he
    clear he
    go_enter Tryz.func169, Tryz.ntmps169
    go_wp2
    go_ret
    exact ⟨congrArg (fun b => Ending.returned (.int .u64 b)) HE.out, rfl⟩
  · have he : bits .and .u64 ((n : Int) / 18446744073709551616) 65535 = ((dg n 7 : Nat) : Int) := by rw [big_div n 7 hn (by omega), show ((n : Int) / 18446744073709551616) = 0 by omega]; decide
    have HE := Lib.hid he
    clear he
    go_enter Tryz.func169, Tryz.ntmps169
    go_wp2
    go_ret
    exact ⟨congrArg (fun b => Ending.returned (.int .u64 b)) HE.out, rfl⟩
end Go.Proofs.YthlkgfplffdiaaaGreatDoor.Nu
/- The product of two numbers of four digits of 16 bits, column by column. -/
namespace Go.Proofs.YthlkgfplffdiaaaGreatDoor.Nu
open Go

/-- What is added up in a column: its first n products. -/
def colS (a b at_ : Nat) : Nat → Nat
  | 0 => 0
  | n + 1 => colS a b at_ n + dg a n * dg b (at_ - n)
/-- What is carried into column k. -/
def carr (a b : Nat) : Nat → Nat
  | 0 => 0
  | k + 1 => (carr a b k + colS a b k (k + 1)) / 65536
def dgt (a b k : Nat) : Nat := (carr a b k + colS a b k (k + 1)) % 65536
/-- The first k digits of the product. -/
def prodS (a b : Nat) : Nat → Nat
  | 0 => 0
  | k + 1 => prodS a b k + dgt a b k * 65536 ^ k
def sumS (a b : Nat) : Nat → Nat
  | 0 => 0
  | k + 1 => sumS a b k + colS a b k (k + 1) * 65536 ^ k
theorem dg_lt (n k : Nat) : dg n k ≤ 65535 := by unfold dg; omega
theorem colS_le (a b at_ : Nat) : ∀ n, colS a b at_ n ≤ n * 4294836225
  | 0 => by simp [colS]
  | n + 1 => by
    have h := colS_le a b at_ n
    have h1 : dg a n * dg b (at_ - n) ≤ 65535 * 65535 := Nat.mul_le_mul (dg_lt _ _) (dg_lt _ _)
    simp only [colS]
    omega
theorem carr_le (a b : Nat) : ∀ k, k ≤ 8 → carr a b k ≤ 1000000
  | 0, _ => by simp [carr]
  | k + 1, hk => by
    have h := carr_le a b k (by omega)
    have h1 := colS_le a b k (k + 1)
    simp only [carr]
    omega
theorem col_bound (a b k n : Nat) (hk : k ≤ 8) (hn : n ≤ 8) : carr a b k + colS a b k n ≤ 34400000000 := by
  have h := carr_le a b k hk
  have h1 := colS_le a b k n
  omega
theorem sumS_eq (a b : Nat) : ∀ k, sumS a b k = prodS a b k + carr a b k * 65536 ^ k
  | 0 => by simp [sumS, prodS, carr]
  | k + 1 => by
    have h := sumS_eq a b k
    have h2 : carr a b k + colS a b k (k + 1) = dgt a b k + 65536 * carr a b (k + 1) := by simp only [dgt, carr]; omega
    simp only [sumS, prodS]
    rw [h, Nat.pow_succ]
    have h3 : (carr a b k + colS a b k (k + 1)) * 65536 ^ k = (dgt a b k + 65536 * carr a b (k + 1)) * 65536 ^ k := by rw [h2]
    rw [Nat.add_mul, Nat.add_mul] at h3
    have h4 : carr a b (k + 1) * (65536 ^ k * 65536) = 65536 * carr a b (k + 1) * 65536 ^ k := by
      rw [← Nat.mul_assoc, Nat.mul_comm (carr a b (k + 1) * 65536 ^ k), ← Nat.mul_assoc]
    omega
theorem prodS_lt (a b : Nat) : ∀ k, prodS a b k < 65536 ^ k
  | 0 => by simp [prodS]
  | k + 1 => by
    have h := prodS_lt a b k
    have h2 : dgt a b k ≤ 65535 := by unfold dgt; omega
    have h3 : dgt a b k * 65536 ^ k ≤ 65535 * 65536 ^ k := Nat.mul_le_mul_right _ h2
    simp only [prodS]
    rw [Nat.pow_succ]
    omega
theorem digits (n : Nat) (h : n < 18446744073709551616) : n = dg n 0 + dg n 1 * 65536 + dg n 2 * 65536 ^ 2 + dg n 3 * 65536 ^ 3 := by
  unfold dg
  simp only [Nat.pow_zero, Nat.pow_one, Nat.div_one]
  omega
theorem sumS_eight (a b : Nat) (ha : a < 18446744073709551616) (hb : b < 18446744073709551616) : sumS a b 8 = a * b := by
  have a4 := big_div a 4 ha (by omega)
  have a5 := big_div a 5 ha (by omega)
  have a6 := big_div a 6 ha (by omega)
  have a7 := big_div a 7 ha (by omega)
  have b4 := big_div b 4 hb (by omega)
  have b5 := big_div b 5 hb (by omega)
  have b6 := big_div b 6 hb (by omega)
  have b7 := big_div b 7 hb (by omega)
  have hA := digits a ha
  have hB := digits b hb
  simp only [sumS, colS, Nat.reduceSub, a4, a5, a6, a7, b4, b5, b6, b7]
  generalize dg a 0 = x0 at *
  generalize dg a 1 = x1 at *
  generalize dg a 2 = x2 at *
  generalize dg a 3 = x3 at *
  generalize dg b 0 = y0 at *
  generalize dg b 1 = y1 at *
  generalize dg b 2 = y2 at *
  generalize dg b 3 = y3 at *
  clear a4 a5 a6 a7 b4 b5 b6 b7 ha hb
  subst hA hB
  grind
theorem prodS_tail (a b : Nat) (h : ∀ j, 4 ≤ j → j < 8 → dgt a b j = 0) : prodS a b 8 = prodS a b 4 := by
  have e : ∀ k, 4 ≤ k → k < 8 → prodS a b (k + 1) = prodS a b k := fun k h0 h1 => by
    show prodS a b k + dgt a b k * 65536 ^ k = _
    rw [h k h0 h1, Nat.zero_mul, Nat.add_zero]
  exact (e 7 (by omega) (by omega)).trans ((e 6 (by omega) (by omega)).trans ((e 5 (by omega) (by omega)).trans (e 4 (by omega) (by omega))))
theorem prod_lin (p c N B M : Nat) (h1 : p + c * B = N) (h2 : N ≤ M) (h3 : M < B) : p = N := by
  rcases Nat.eq_zero_or_pos c with h | h
  · rw [h, Nat.zero_mul] at h1
    exact h1
  · have : 1 * B ≤ c * B := Nat.mul_le_mul_right _ h
    omega
/-- All digits past the fourth are 0: the product has room. -/
theorem prod_fits (a b : Nat) (ha : a < 18446744073709551616) (hb : b < 18446744073709551616) (h : ∀ j, 4 ≤ j → j < 8 → dgt a b j = 0) : prodS a b 4 = a * b := by
  have h1 := sumS_eight a b ha hb
  rw [sumS_eq, prodS_tail a b h] at h1
  exact prod_lin _ _ _ (65536 ^ 8) (18446744073709551615 * 18446744073709551615) h1 (Nat.mul_le_mul (Nat.le_of_lt_succ ha) (Nat.le_of_lt_succ hb)) (by decide)
/-- Some digit past the fourth is not 0: it has none. -/
theorem prod_over (a b : Nat) (ha : a < 18446744073709551616) (hb : b < 18446744073709551616) (j : Nat) (h4 : 4 ≤ j) (h8 : j < 8) (h : dgt a b j ≠ 0) : 18446744073709551616 ≤ a * b := by
  have h1 := sumS_eight a b ha hb
  rw [sumS_eq] at h1
  have hm : ∀ k, prodS a b k ≤ prodS a b (k + 1) := fun k => Nat.le_add_right _ _
  have h5 : prodS a b (j + 1) ≤ prodS a b 8 := by
    rcases (by omega : j = 4 ∨ j = 5 ∨ j = 6 ∨ j = 7) with rfl | rfl | rfl | rfl
    · exact Nat.le_trans (hm 5) (Nat.le_trans (hm 6) (hm 7))
    · exact Nat.le_trans (hm 6) (hm 7)
    · exact hm 7
    · exact Nat.le_refl _
  have h6 : 65536 ^ 4 ≤ 65536 ^ j := Nat.pow_le_pow_right (by decide) h4
  have h7 : 1 * 65536 ^ j ≤ dgt a b j * 65536 ^ j := Nat.mul_le_mul_right _ (by omega)
  have h9 : prodS a b (j + 1) = prodS a b j + dgt a b j * 65536 ^ j := rfl
  have h10 : prodS a b 8 ≤ a * b := h1 ▸ Nat.le_add_right _ _
  rw [h9] at h5
  rw [Nat.one_mul] at h7
  exact Nat.le_trans (Nat.le_trans h6 h7) (Nat.le_trans (Nat.le_add_left _ _) (Nat.le_trans h5 h10))
theorem or_add (p d k : Nat) (hp : p < 65536 ^ k) : p ||| d * 65536 ^ k = p + d * 65536 ^ k := by
  have e : 65536 ^ k = 2 ^ (16 * k) := by rw [Nat.pow_mul]
  rw [e] at hp ⊢
  rw [Nat.or_comm, Nat.mul_comm d, ← Nat.two_pow_add_eq_or_of_lt hp]
  omega
end Go.Proofs.YthlkgfplffdiaaaGreatDoor.Nu
/- The program's product of two numbers, digit by digit. -/
namespace Go.Proofs.YthlkgfplffdiaaaGreatDoor.Nu
open Go Go.RowKit

theorem u64_small (n : Nat) (h : n < 18446744073709551616) : IntKind.u64.wrap (n : Int) = (n : Int) := by rw [IntKind.wrap_u64]; omega
def timesV (a b : Nat) : Value := if a * b < 18446744073709551616 then .tuple #[.int .u64 ((a * b : Nat) : Int), .bool true] else .tuple #[.int .u64 0, .bool false]
set_option maxRecDepth 100000 in
set_option maxHeartbeats 4000000 in
theorem times_c (a b : Nat) (ha : a < 18446744073709551616) (hb : b < 18446744073709551616) (w : World) : Calls Tryz.prog 152 #[.int .u64 (a : Int), .int .u64 (b : Int)] w fun e w' => e = .returned (timesV a b) ∧ w = w' := by
  have HD := Lib.hid (fun (n k : Nat) (hn : n < 18446744073709551616) (hk : k < 8) (w : World) => digit_c n k hn hk w)
  go_enter Tryz.func152, Tryz.ntmps152
  go_wp2
  refine wp_scope_straight ?_
  go_wp2
  refine wp_label ?_
  go_wp2
  go_loop [6, 7, 8, 12] (fun p c o i => ∃ k : Nat, k ≤ 8 ∧ i = .int .i64 (k : Int) ∧ c = .int .u64 ((carr a b k : Nat) : Int) ∧ o = .bool true ∧ p = .int .u64 ((prodS a b (min k 4) : Nat) : Int) ∧ (∀ j, 4 ≤ j → j < k → dgt a b j = 0)) (fun _ _ _ i => 8 - (intOf i).toNat)
  case atStart => exact ⟨0, Nat.zero_le _, rfl, rfl, rfl, rfl, fun j _ h => absurd h (Nat.not_lt_zero _)⟩
  case round =>
    obtain ⟨k, hk, rfl, rfl, rfl, rfl, hz⟩ := hrel
    have HZ := Lib.hid hz
    clear hz
    by_cases hlt : k < 8
    · obtain ⟨p, hp⟩ : ∃ p, p = prodS a b (min k 4) := ⟨_, rfl⟩
      rw [← hp]
      have HP := Lib.hid hp
      clear hp
      go_wp2
      go_loop [7, 17] (fun c i => ∃ n : Nat, n ≤ k + 1 ∧ i = .int .i64 (n : Int) ∧ c = .int .u64 ((carr a b k + colS a b k n : Nat) : Int)) (fun _ i => k + 1 - (intOf i).toNat)
      case atStart => exact ⟨0, Nat.zero_le _, rfl, rfl⟩
      case round =>
        obtain ⟨n, hn, rfl, rfl⟩ := hrel
        by_cases hnk : n < k + 1
        · have hx0 : ∀ w, Calls Tryz.prog 169 #[.int .u64 (a : Int), .int .i64 (n : Int)] w fun e w' => e = .returned (.int .u64 ((dg a n : Nat) : Int)) ∧ w = w' := fun w => HD.out a n ha (by omega) w
          have hy0 : ∀ w, Calls Tryz.prog 169 #[.int .u64 (b : Int), .int .i64 ((k : Int) - (n : Int))] w fun e w' => e = .returned (.int .u64 ((dg b (k - n) : Nat) : Int)) ∧ w = w' := fun w => by
            rw [show ((k : Int) - (n : Int)) = ((k - n : Nat) : Int) by omega]
            exact HD.out b (k - n) hb (by omega) w
          have hcb := col_bound a b k (n + 1) (by omega) (by omega)
          have hst : colS a b k (n + 1) = colS a b k n + dg a n * dg b (k - n) := rfl
          obtain ⟨x, hx⟩ : ∃ x, x = dg a n := ⟨_, rfl⟩
          obtain ⟨y, hy⟩ : ∃ y, y = dg b (k - n) := ⟨_, rfl⟩
          rw [← hx] at hx0 hst
          rw [← hy] at hy0 hst
          obtain ⟨m, hm⟩ : ∃ m, m = x * y := ⟨_, rfl⟩
          rw [← hm] at hst
          obtain ⟨c, hc⟩ : ∃ c, c = carr a b k + colS a b k n := ⟨_, rfl⟩
          obtain ⟨c', hc'⟩ : ∃ c', c' = carr a b k + colS a b k (n + 1) := ⟨_, rfl⟩
          have e1 : IntKind.u64.wrap ((x : Int) * (y : Int)) = (m : Int) := by
            rw [show ((x : Int) * (y : Int)) = ((x * y : Nat) : Int) from rfl, ← hm]
            exact u64_small m (by omega)
          have e2 : IntKind.u64.wrap ((c : Int) + (m : Int)) = (c' : Int) := by
            rw [show ((c : Int) + (m : Int)) = (c' : Int) by omega]
            exact u64_small c' (by omega)
          rw [← hc]
          have HC := Lib.hid hc'
          have HX := Lib.hid hx0
          have HY := Lib.hid hy0
          clear hx0 hy0 hx hy hm hc hc' hst hcb
          go_wp2_with fail
          refine (HX.out _).mono ?_
          rintro e w' ⟨rfl, rfl⟩
          go_wp2_with fail
          refine (HY.out _).mono ?_
          rintro e w' ⟨rfl, rfl⟩
          go_wp2_with fail
          go_round
          case rel => exact ⟨n + 1, by omega, by go_num, by rw [← HC.out]⟩
          case measure => simp [intOf]; omega
        · have hnk' : n = k + 1 := by omega
          subst hnk'
          have hcb := col_bound a b k (k + 1) (by omega) (by omega)
          obtain ⟨c, hc⟩ : ∃ c, c = carr a b k + colS a b k (k + 1) := ⟨_, rfl⟩
          rw [← hc] at hcb ⊢
          obtain ⟨d, hd⟩ : ∃ d, d = dgt a b k := ⟨_, rfl⟩
          have hd' : d = c % 65536 := by rw [hd, hc]; rfl
          have hcs : carr a b (k + 1) = c / 65536 := by rw [hc]; rfl
          have e1 : bits .and .u64 (c : Int) 65535 = (d : Int) := by rw [hd']; exact mask_u64 c (by omega)
          have e2 : (c : Int) / 65536 = ((carr a b (k + 1) : Nat) : Int) := by rw [hcs]; omega
          have hpl := prodS_lt a b (min k 4)
          rw [← HP.out] at hpl
          have HDD := Lib.hid hd
          have hdl : d < 65536 := by omega
          have HC := Lib.hid hcs
          have HC2 := Lib.hid e2
          clear hc hd hcs e2 hd'
          by_cases hk4 : k < 4
          · have hps : prodS a b (min (k + 1) 4) = p + d * 65536 ^ k := by
              rw [HP.out, HDD.out, show min (k + 1) 4 = k + 1 by omega, show min k 4 = k by omega]
              rfl
            have HPS := Lib.hid hps
            rw [show min k 4 = k by omega] at hpl
            have e3 := or_add p d k hpl
            clear hps
            rcases (by omega : k = 0 ∨ k = 1 ∨ k = 2 ∨ k = 3) with rfl | rfl | rfl | rfl
            · have e4 : bits .or .u64 (p : Int) (d : Int) = ((p + d * 65536 ^ 0 : Nat) : Int) := by
                rw [show (d : Int) = ((d * 65536 ^ 0 : Nat) : Int) by omega, or_u64 p (d * 65536 ^ 0) (by omega) (by omega), e3]
              have E4 := Lib.hid e4
              clear e4 e3 hpl
              go_wp2
              go_round
              case rel => exact ⟨1, by omega, rfl, by rw [← HC2.out], rfl, by rw [HPS.out, E4.out], fun j h4 hj => absurd hj (by omega)⟩
              case measure => simp [intOf]
            · have e4 : bits .or .u64 (p : Int) ((d : Int) * 65536) = ((p + d * 65536 ^ 1 : Nat) : Int) := by
                rw [show ((d : Int) * 65536) = ((d * 65536 ^ 1 : Nat) : Int) by omega, or_u64 p (d * 65536 ^ 1) (by omega) (by omega), e3]
              have E4 := Lib.hid e4
              clear e4 e3 hpl
              go_wp2
              go_round
              case rel => exact ⟨2, by omega, rfl, by rw [← HC2.out], rfl, by rw [HPS.out, E4.out], fun j h4 hj => absurd hj (by omega)⟩
              case measure => simp [intOf]
            · have e4 : bits .or .u64 (p : Int) ((d : Int) * 4294967296) = ((p + d * 65536 ^ 2 : Nat) : Int) := by
                rw [show ((d : Int) * 4294967296) = ((d * 65536 ^ 2 : Nat) : Int) by omega, or_u64 p (d * 65536 ^ 2) (by omega) (by omega), e3]
              have E4 := Lib.hid e4
              clear e4 e3 hpl
              go_wp2
              go_round
              case rel => exact ⟨3, by omega, rfl, by rw [← HC2.out], rfl, by rw [HPS.out, E4.out], fun j h4 hj => absurd hj (by omega)⟩
              case measure => simp [intOf]
            · have e4 : bits .or .u64 (p : Int) ((d : Int) * 281474976710656) = ((p + d * 65536 ^ 3 : Nat) : Int) := by
                rw [show ((d : Int) * 281474976710656) = ((d * 65536 ^ 3 : Nat) : Int) by omega, or_u64 p (d * 65536 ^ 3) (by omega) (by omega), e3]
              have E4 := Lib.hid e4
              clear e4 e3 hpl
              go_wp2
              go_round
              case rel => exact ⟨4, by omega, rfl, by rw [← HC2.out], rfl, by rw [HPS.out, E4.out], fun j h4 hj => absurd hj (by omega)⟩
              case measure => simp [intOf]
          · by_cases hd0 : d = 0
            · subst hd0
              have hps : prodS a b (min (k + 1) 4) = p := by rw [HP.out, show min (k + 1) 4 = 4 by omega, show min k 4 = 4 by omega]
              have HPS := Lib.hid hps
              clear hps hpl
              go_wp2
              go_round
              case rel => exact ⟨k + 1, by omega, by go_num, by rw [← HC2.out], rfl, by rw [HPS.out], fun j h4 hj => by
                rcases (by omega : j < k ∨ j = k) with h | rfl
                · exact HZ.out j h4 h
                · exact HDD.out.symm⟩
              case measure => simp [intOf]; omega
            · have hov := prod_over a b ha hb k (by omega) hlt (by rw [← HDD.out]; exact hd0)
              have hv : timesV a b = .tuple #[.int .u64 0, .bool false] := if_neg (by omega)
              have HV := Lib.hid hv
              have t0 : ((d : Int) != 0) = true := by simp; omega
              clear hov hv hd0
              go_wp2
              go_ret2
              exact ⟨by rw [HV.out]; rfl, rfl⟩
    · have hk8 : k = 8 := by omega
      subst hk8
      have hpf := prod_fits a b ha hb HZ.out
      have hpl := prodS_lt a b 4
      have hv : timesV a b = .tuple #[.int .u64 ((prodS a b 4 : Nat) : Int), .bool true] := by
        unfold timesV
        rw [if_pos (by rw [← hpf]; exact hpl), hpf]
      have HV := Lib.hid hv
      clear hpf hv
      go_wp2
      go_ret2
      exact ⟨by rw [HV.out]; rfl, rfl⟩
end Go.Proofs.YthlkgfplffdiaaaGreatDoor.Nu
/- number's checks and reckonings, where there is more to them. -/
namespace Go.Proofs.YthlkgfplffdiaaaGreatDoor.Nu
open Go Go.RowKit
attribute [local go_sem] Oper.semAt_some

theorem tmod_in (x y : Int) (hy : In y) : In (y.tmod x) := by
  have h1 : (y.tmod x).natAbs = y.natAbs % x.natAbs := Int.natAbs_tmod y x
  have h2 : y.natAbs % x.natAbs ≤ y.natAbs := Nat.mod_le _ _
  rcases Int.le_total 0 y with h | h
  · have := Int.tmod_nonneg x h
    omega
  · have : (y.tmod x) ≤ 0 := by
      have h3 := Int.tmod_nonneg x (show 0 ≤ -y by omega)
      rw [Int.neg_tmod] at h3
      omega
    omega
theorem res_eq (x y : Int) (hx : x ≠ 0) : (y.tmod x = 0 → y.fmod x = 0) ∧ (y.tmod x ≠ 0 → decide (y.tmod x < 0) = decide (x < 0) → y.fmod x = y.tmod x) ∧ (y.tmod x ≠ 0 → ¬ decide (y.tmod x < 0) = decide (x < 0) → y.fmod x = y.tmod x + x) := by
  have h1 := Int.mul_tdiv_add_tmod y x
  have h2 := Int.mul_fdiv_add_fmod y x
  have h3 : (y.tmod x).natAbs < x.natAbs := by rw [Int.natAbs_tmod]; exact Nat.mod_lt _ (by omega)
  generalize y.tmod x = r at *
  have key : ∀ q r : Int, x * q + r = y → (0 < x → 0 ≤ r ∧ r < x) → (x < 0 → x < r ∧ r ≤ 0) → y.fmod x = r := by
    intro q r h ha hb
    rw [← h, Int.add_comm, Int.add_mul_fmod_self_left]
    rcases Int.lt_or_lt_of_ne hx with hn | hp
    · have := hb hn
      rcases Int.le_iff_lt_or_eq.1 this.2 with hr | rfl
      · have e := Int.fmod_eq_of_lt (a := -r) (b := -x) (by omega) (by omega)
        rw [Int.neg_fmod_neg] at e
        omega
      · simp
    · exact Int.fmod_eq_of_lt (ha hp).1 (ha hp).2
  simp only [decide_eq_decide]
  refine ⟨fun h => ?_, fun h0 h => ?_, fun h0 h => ?_⟩
  · subst h
    exact key _ _ h1 (fun h => ⟨Int.le_refl _, h⟩) (fun h => ⟨h, Int.le_refl _⟩)
  · exact key _ _ h1 (fun h => by omega) (fun h => by omega)
  · refine key (y.tdiv x - 1) (r + x) ?_ (fun h => by omega) (fun h => by omega)
    rw [Int.mul_sub, Int.mul_one]
    omega
set_option maxRecDepth 100000 in
set_option maxHeartbeats 2000000 in
theorem residue_c (x y : Int) (hx : In x) (hy : In y) (w : World) : Calls Tryz.prog 135 #[pairV x y] w fun e w' => e = .returned (.int .i64 (resR x y)) ∧ Below w.heap.size w w' := by
  have HB := Lib.hid ((Below.refl w.heap.size w).alloc (Nat.le_refl _) (.cells #[.int .i64 x, .int .i64 y] 95))
  by_cases h0 : x = 0
  · have he : resR x y = y := by simp [resR, h0]
    rw [he]
    subst h0
    clear he
    go_enter Tryz.func135, Tryz.ntmps135
    go_wp2
    go_ret
    exact ⟨rfl, HB.out⟩
  · have t0 : (x == 0) = false := by simp [h0]
    have he : resR x y = y.fmod x := by simp [resR, h0]
    rw [he]
    clear he
    obtain ⟨r, hr⟩ : ∃ r, r = y.tmod x := ⟨_, rfl⟩
    have hres := res_eq x y h0
    rw [← hr] at hres
    have hrl := tmod_in x y hy
    rw [← hr] at hrl
    by_cases h1 : r = 0
    · have t1 : (y.tmod x != 0) = false := by rw [← hr]; simp [h1]
      have HE : Hid (y.fmod x = y.tmod x) := Lib.hid (by rw [hres.1 h1, ← hr, h1])
      clear hres hrl hr h1
      go_enter Tryz.func135, Tryz.ntmps135
      go_wp2
      go_ret
      exact ⟨by rw [HE.out]; rfl, HB.out⟩
    · have t1 : (y.tmod x != 0) = true := by rw [← hr]; simp [h1]
      by_cases h2 : decide (r < 0) = decide (x < 0)
      · have t2 : (!(decide (y.tmod x < 0) == decide (x < 0))) = false := by rw [← hr]; simp [h2]
        have HE : Hid (y.fmod x = y.tmod x) := Lib.hid (by rw [hres.2.1 h1 h2, ← hr])
        clear hres hrl hr h1 h2
        go_enter Tryz.func135, Tryz.ntmps135
        go_wp2
        go_ret
        exact ⟨by rw [HE.out]; rfl, HB.out⟩
      · have t2 : (!(decide (y.tmod x < 0) == decide (x < 0))) = true := by rw [← hr]; simp [h2]
        have hw : wrap64 (y.tmod x + x) = y.tmod x + x := by rw [← hr]; exact wrap_in (by simp only [decide_eq_decide] at h2; omega)
        have HE : Hid (y.fmod x = y.tmod x + x) := Lib.hid (by rw [hres.2.2 h1 h2, ← hr])
        have HW := Lib.hid hw
        clear hres hrl hr h1 h2 hw
        go_enter Tryz.func135, Tryz.ntmps135
        go_wp2
        go_ret
        exact ⟨by rw [HE.out]; exact congrArg (fun n => Ending.returned (.int .i64 n)) HW.out, HB.out⟩
end Go.Proofs.YthlkgfplffdiaaaGreatDoor.Nu
/- number's checks and reckonings, where there is more to them. -/
namespace Go.Proofs.YthlkgfplffdiaaaGreatDoor.Nu
open Go Go.RowKit
attribute [local go_sem] Oper.semAt_some

set_option maxRecDepth 100000 in
set_option maxHeartbeats 2000000 in
theorem holds_7 (x y : Int) (w : World) : Calls Tryz.prog 155 #[pairV x y, .string ⟨#[61]⟩] w fun e w' => e = .returned (.bool (decide (x = y))) ∧ Below w.heap.size w w' := by
  have HB := Lib.hid ((Below.refl w.heap.size w).alloc (Nat.le_refl _) (.cells #[.int .i64 x, .int .i64 y] 95))
  rcases Int.lt_trichotomy x y with h | h | h
  · have t1 : (x == y) = false := by simp; omega
    have t2 : (x != y) = true := by simp; omega
    have t3 : decide (x < y) = true := by simp [h]
    have t4 : decide (y < x) = false := by simp; omega
    have he : decide (x = y) = false := by simp; omega
    rw [he]
    clear he h
    go_enter Tryz.func155, Tryz.ntmps155
    go_wp2
    go_ret
    exact ⟨rfl, HB.out⟩
  · have t1 : (x == y) = true := by simp [h]
    have t2 : (x != y) = false := by simp [h]
    have t3 : decide (x < y) = false := by simp; omega
    have t4 : decide (y < x) = false := by simp; omega
    have he : decide (x = y) = true := by simp; omega
    rw [he]
    clear he h
    go_enter Tryz.func155, Tryz.ntmps155
    go_wp2
    go_ret
    exact ⟨rfl, HB.out⟩
  · have t1 : (x == y) = false := by simp; omega
    have t2 : (x != y) = true := by simp; omega
    have t3 : decide (x < y) = false := by simp; omega
    have t4 : decide (y < x) = true := by simp [h]
    have he : decide (x = y) = false := by simp; omega
    rw [he]
    clear he h
    go_enter Tryz.func155, Tryz.ntmps155
    go_wp2
    go_ret
    exact ⟨rfl, HB.out⟩
set_option maxRecDepth 100000 in
set_option maxHeartbeats 2000000 in
theorem holds_8 (x y : Int) (w : World) : Calls Tryz.prog 155 #[pairV x y, .string ⟨#[226, 137, 160]⟩] w fun e w' => e = .returned (.bool (decide (x ≠ y))) ∧ Below w.heap.size w w' := by
  have HB := Lib.hid ((Below.refl w.heap.size w).alloc (Nat.le_refl _) (.cells #[.int .i64 x, .int .i64 y] 95))
  rcases Int.lt_trichotomy x y with h | h | h
  · have t1 : (x == y) = false := by simp; omega
    have t2 : (x != y) = true := by simp; omega
    have t3 : decide (x < y) = true := by simp [h]
    have t4 : decide (y < x) = false := by simp; omega
    have he : decide (x ≠ y) = true := by simp; omega
    rw [he]
    clear he h
    go_enter Tryz.func155, Tryz.ntmps155
    go_wp2
    go_ret
    exact ⟨rfl, HB.out⟩
  · have t1 : (x == y) = true := by simp [h]
    have t2 : (x != y) = false := by simp [h]
    have t3 : decide (x < y) = false := by simp; omega
    have t4 : decide (y < x) = false := by simp; omega
    have he : decide (x ≠ y) = false := by simp; omega
    rw [he]
    clear he h
    go_enter Tryz.func155, Tryz.ntmps155
    go_wp2
    go_ret
    exact ⟨rfl, HB.out⟩
  · have t1 : (x == y) = false := by simp; omega
    have t2 : (x != y) = true := by simp; omega
    have t3 : decide (x < y) = false := by simp; omega
    have t4 : decide (y < x) = true := by simp [h]
    have he : decide (x ≠ y) = true := by simp; omega
    rw [he]
    clear he h
    go_enter Tryz.func155, Tryz.ntmps155
    go_wp2
    go_ret
    exact ⟨rfl, HB.out⟩
set_option maxRecDepth 100000 in
set_option maxHeartbeats 2000000 in
theorem holds_9 (x y : Int) (w : World) : Calls Tryz.prog 155 #[pairV x y, .string ⟨#[60]⟩] w fun e w' => e = .returned (.bool (decide (x < y))) ∧ Below w.heap.size w w' := by
  have HB := Lib.hid ((Below.refl w.heap.size w).alloc (Nat.le_refl _) (.cells #[.int .i64 x, .int .i64 y] 95))
  rcases Int.lt_trichotomy x y with h | h | h
  · have t1 : (x == y) = false := by simp; omega
    have t2 : (x != y) = true := by simp; omega
    have t3 : decide (x < y) = true := by simp [h]
    have t4 : decide (y < x) = false := by simp; omega
    have he : decide (x < y) = true := by simp; omega
    rw [he]
    clear he h
    go_enter Tryz.func155, Tryz.ntmps155
    go_wp2
    go_ret
    exact ⟨rfl, HB.out⟩
  · have t1 : (x == y) = true := by simp [h]
    have t2 : (x != y) = false := by simp [h]
    have t3 : decide (x < y) = false := by simp; omega
    have t4 : decide (y < x) = false := by simp; omega
    have he : decide (x < y) = false := by simp; omega
    rw [he]
    clear he h
    go_enter Tryz.func155, Tryz.ntmps155
    go_wp2
    go_ret
    exact ⟨rfl, HB.out⟩
  · have t1 : (x == y) = false := by simp; omega
    have t2 : (x != y) = true := by simp; omega
    have t3 : decide (x < y) = false := by simp; omega
    have t4 : decide (y < x) = true := by simp [h]
    have he : decide (x < y) = false := by simp; omega
    rw [he]
    clear he h
    go_enter Tryz.func155, Tryz.ntmps155
    go_wp2
    go_ret
    exact ⟨rfl, HB.out⟩
set_option maxRecDepth 100000 in
set_option maxHeartbeats 2000000 in
theorem holds_10 (x y : Int) (w : World) : Calls Tryz.prog 155 #[pairV x y, .string ⟨#[62]⟩] w fun e w' => e = .returned (.bool (decide (y < x))) ∧ Below w.heap.size w w' := by
  have HB := Lib.hid ((Below.refl w.heap.size w).alloc (Nat.le_refl _) (.cells #[.int .i64 x, .int .i64 y] 95))
  rcases Int.lt_trichotomy x y with h | h | h
  · have t1 : (x == y) = false := by simp; omega
    have t2 : (x != y) = true := by simp; omega
    have t3 : decide (x < y) = true := by simp [h]
    have t4 : decide (y < x) = false := by simp; omega
    have he : decide (y < x) = false := by simp; omega
    rw [he]
    clear he h
    go_enter Tryz.func155, Tryz.ntmps155
    go_wp2
    go_ret
    exact ⟨rfl, HB.out⟩
  · have t1 : (x == y) = true := by simp [h]
    have t2 : (x != y) = false := by simp [h]
    have t3 : decide (x < y) = false := by simp; omega
    have t4 : decide (y < x) = false := by simp; omega
    have he : decide (y < x) = false := by simp; omega
    rw [he]
    clear he h
    go_enter Tryz.func155, Tryz.ntmps155
    go_wp2
    go_ret
    exact ⟨rfl, HB.out⟩
  · have t1 : (x == y) = false := by simp; omega
    have t2 : (x != y) = true := by simp; omega
    have t3 : decide (x < y) = false := by simp; omega
    have t4 : decide (y < x) = true := by simp [h]
    have he : decide (y < x) = true := by simp; omega
    rw [he]
    clear he h
    go_enter Tryz.func155, Tryz.ntmps155
    go_wp2
    go_ret
    exact ⟨rfl, HB.out⟩
set_option maxRecDepth 100000 in
set_option maxHeartbeats 2000000 in
theorem holds_11 (x y : Int) (w : World) : Calls Tryz.prog 155 #[pairV x y, .string ⟨#[226, 137, 164]⟩] w fun e w' => e = .returned (.bool (decide (x ≤ y))) ∧ Below w.heap.size w w' := by
  have HB := Lib.hid ((Below.refl w.heap.size w).alloc (Nat.le_refl _) (.cells #[.int .i64 x, .int .i64 y] 95))
  rcases Int.lt_trichotomy x y with h | h | h
  · have t1 : (x == y) = false := by simp; omega
    have t2 : (x != y) = true := by simp; omega
    have t3 : decide (x < y) = true := by simp [h]
    have t4 : decide (y < x) = false := by simp; omega
    have he : decide (x ≤ y) = true := by simp; omega
    rw [he]
    clear he h
    go_enter Tryz.func155, Tryz.ntmps155
    go_wp2
    go_ret
    exact ⟨rfl, HB.out⟩
  · have t1 : (x == y) = true := by simp [h]
    have t2 : (x != y) = false := by simp [h]
    have t3 : decide (x < y) = false := by simp; omega
    have t4 : decide (y < x) = false := by simp; omega
    have he : decide (x ≤ y) = true := by simp; omega
    rw [he]
    clear he h
    go_enter Tryz.func155, Tryz.ntmps155
    go_wp2
    go_ret
    exact ⟨rfl, HB.out⟩
  · have t1 : (x == y) = false := by simp; omega
    have t2 : (x != y) = true := by simp; omega
    have t3 : decide (x < y) = false := by simp; omega
    have t4 : decide (y < x) = true := by simp [h]
    have he : decide (x ≤ y) = false := by simp; omega
    rw [he]
    clear he h
    go_enter Tryz.func155, Tryz.ntmps155
    go_wp2
    go_ret
    exact ⟨rfl, HB.out⟩
set_option maxRecDepth 100000 in
set_option maxHeartbeats 2000000 in
theorem holds_12 (x y : Int) (w : World) : Calls Tryz.prog 155 #[pairV x y, .string ⟨#[226, 137, 165]⟩] w fun e w' => e = .returned (.bool (decide (y ≤ x))) ∧ Below w.heap.size w w' := by
  have HB := Lib.hid ((Below.refl w.heap.size w).alloc (Nat.le_refl _) (.cells #[.int .i64 x, .int .i64 y] 95))
  rcases Int.lt_trichotomy x y with h | h | h
  · have t1 : (x == y) = false := by simp; omega
    have t2 : (x != y) = true := by simp; omega
    have t3 : decide (x < y) = true := by simp [h]
    have t4 : decide (y < x) = false := by simp; omega
    have he : decide (y ≤ x) = false := by simp; omega
    rw [he]
    clear he h
    go_enter Tryz.func155, Tryz.ntmps155
    go_wp2
    go_ret
    exact ⟨rfl, HB.out⟩
  · have t1 : (x == y) = true := by simp [h]
    have t2 : (x != y) = false := by simp [h]
    have t3 : decide (x < y) = false := by simp; omega
    have t4 : decide (y < x) = false := by simp; omega
    have he : decide (y ≤ x) = true := by simp; omega
    rw [he]
    clear he h
    go_enter Tryz.func155, Tryz.ntmps155
    go_wp2
    go_ret
    exact ⟨rfl, HB.out⟩
  · have t1 : (x == y) = false := by simp; omega
    have t2 : (x != y) = true := by simp; omega
    have t3 : decide (x < y) = false := by simp; omega
    have t4 : decide (y < x) = true := by simp [h]
    have he : decide (y ≤ x) = true := by simp; omega
    rw [he]
    clear he h
    go_enter Tryz.func155, Tryz.ntmps155
    go_wp2
    go_ret
    exact ⟨rfl, HB.out⟩
end Go.Proofs.YthlkgfplffdiaaaGreatDoor.Nu
