/- Merged by gen/sh_merge.py: ShMath, ShBase, ShPart, ShNum, ShJoin, ShJn2. -/
import Derived.Test.YteclpoooggcdoaaGreatDoorArA
import Derived.Test.YteclpoooggcdoaaGreatDoorShErr
import Derived.Test.YteclpoooggcdoaaGreatDoorRgA
import Derived.OwnWalk
import Derived.Deep.OwnRows
import Derived.Deep.DeepCutAuto
import Derived.Laws.CopyOwn
/- shape's functions, plain: what they make of arrays. -/
namespace Go.Proofs.YteclpoooggcdoaaGreatDoor.Ar
open Go Go.RowKit

def noA : Ary := ⟨false, false, []⟩
def oneAr (x : Int) : Ary := ⟨false, false, [x]⟩
def fillN (r : Bool) : Int := if r then 32 else 0
def hasAny (As : List Ary) : Bool := As.any hasR || As.all (fun a => a.runes)
def flatN (As : List Ary) : List Int := (As.map (fun a => a.n)).flatten
/-- Numbers on the left. -/
def numE (a : Ary) : Int := if a.n.length = 1 then (if a.runes then 102 else 0) else 111
def numV (a : Ary) : Int := a.n.headD 0
def cntE (a : Ary) : Int := if numE a = 0 then (if numV a < 0 then 102 else if 200 < numV a then 113 else 0) else numE a
/-- What is taken, what is left. -/
def tkL (n : Int) (L : List Int) : List Int := if n < 0 then L.drop ((L.length : Int) + n).toNat else L.take n.toNat
def otL (n : Int) (L : List Int) : List Int := if n < 0 then L.take ((L.length : Int) + n).toNat else L.drop n.toNat
def upL (n : Nat) : List Int := (List.range n).map (fun i : Nat => (i : Int) + 1)
def cycL (L : List Int) (n : Nat) : List Int := (List.range n).map (fun i => L.getD (i % L.length) 0)
def rotK (n : Int) (L : List Int) : Nat := (n % (L.length : Int)).toNat
def rotL (n : Int) (L : List Int) : List Int := L.drop (rotK n L) ++ L.take (rotK n L)
def takeL (n : Int) (r : Bool) (L : List Int) : List Int := if n < 0 then List.replicate ((-n).toNat - L.length) (fillN r) ++ tkL n L else tkL n L ++ List.replicate (n.toNat - L.length) (fillN r)
def idxN (s : Bool) (A : List Int) (x : Int) : Nat := if s then A.findIdx (fun y => decide (y = x)) else A.length
def idxL (a b : Ary) : List Int := b.n.map (fun x => (idxN (a.runes == b.runes) a.n x : Int) + 1)
/-- Which glyph. -/
def shG : Nat → ByteArray
  | 0 => ⟨#[226, 141, 180]⟩
  | 1 => ⟨#[226, 141, 179]⟩
  | 2 => ⟨#[44]⟩
  | 3 => ⟨#[226, 140, 189]⟩
  | 4 => ⟨#[226, 134, 145]⟩
  | 5 => ⟨#[226, 134, 147]⟩
  | _ => ⟨#[226, 137, 162]⟩
def whichS (g : ByteArray) : Nat := if g = shG 0 then 0 else if g = shG 1 then 1 else if g = shG 2 then 2 else if g = shG 3 then 3 else if g = shG 4 then 4 else if g = shG 5 then 5 else if g = shG 6 then 6 else 7
def mkE1 (k : Nat) (b : Ary) : Int := match k with
  | 1 => cntE b
  | 5 => 102
  | 7 => 102
  | _ => 0
def mkA1 (k : Nat) (b : Ary) : Ary := match k with
  | 0 => ⟨true, false, if b.list then [(b.n.length : Int)] else []⟩
  | 1 => ⟨true, false, upL (numV b).toNat⟩
  | 2 => ⟨true, b.runes, b.n⟩
  | 3 => ⟨b.list, b.runes, b.n.reverse⟩
  | 4 => ⟨false, b.runes, [b.n.headD (fillN b.runes)]⟩
  | _ => oneAr b.n.length
def mkE2 (k : Nat) (a b : Ary) : Int := match k with
  | 0 => if cntE a = 0 then (if 0 < numV a ∧ b.n.length = 0 then 110 else 0) else cntE a
  | 1 => if a.list then 0 else 111
  | 2 => if 0 < a.n.length ∧ 0 < b.n.length ∧ a.runes ≠ b.runes then 102 else if 200 < a.n.length + b.n.length then 113 else 0
  | 3 => numE a
  | 4 => if numE a = 0 then (if numV a < -200 ∨ 200 < numV a then 113 else 0) else numE a
  | 5 => numE a
  | 6 => 0
  | _ => 102
def mkA2 (k : Nat) (a b : Ary) : Ary := match k with
  | 0 => ⟨true, b.runes, cycL b.n (numV a).toNat⟩
  | 1 => ⟨b.list, false, idxL a b⟩
  | 2 => ⟨true, hasAny [a, b], a.n ++ b.n⟩
  | 3 => ⟨b.list, b.runes, rotL (numV a) b.n⟩
  | 4 => ⟨true, b.runes, takeL (numV a) b.runes b.n⟩
  | 5 => ⟨true, b.runes, otL (numV a) b.n⟩
  | _ => oneAr (if decide (a.list = b.list) && (decide (a.runes = b.runes) && decide (a.n = b.n)) then 0 else 1)
def smE (g : ByteArray) (b : Ary) : Int := if rightA b then mkE1 (whichS g) b else 114
def smA (g : ByteArray) (b : Ary) : Ary := if smE g b = 0 then mkA1 (whichS g) b else noA
def sdE (g : ByteArray) (a b : Ary) : Int := if rightA a && rightA b then mkE2 (whichS g) a b else 114
def sdA (g : ByteArray) (a b : Ary) : Ary := if sdE g a b = 0 then mkA2 (whichS g) a b else noA

theorem tkL_pos {n : Int} (L : List Int) (h : 0 ≤ n) : tkL n L = L.take n.toNat := by rw [tkL, if_neg (by omega)]
theorem tkL_neg {n : Int} (L : List Int) (h : n < 0) : tkL n L = L.drop ((L.length : Int) + n).toNat := by rw [tkL, if_pos h]
theorem otL_pos {n : Int} (L : List Int) (h : 0 ≤ n) : otL n L = L.drop n.toNat := by rw [otL, if_neg (by omega)]
theorem otL_neg {n : Int} (L : List Int) (h : n < 0) : otL n L = L.take ((L.length : Int) + n).toNat := by rw [otL, if_pos h]
theorem upL_len (n : Nat) : (upL n).length = n := by simp [upL]
theorem cycL_len (L : List Int) (n : Nat) : (cycL L n).length = n := by simp [cycL]
theorem idxL_len (a b : Ary) : (idxL a b).length = b.n.length := by simp [idxL]
theorem upL_at {n i : Nat} (h : i < n) : (upL n)[i]? = some ((i : Int) + 1) := by simp [upL, h]
theorem cycL_at (L : List Int) {n i : Nat} (h : i < n) : (cycL L n)[i]? = some (L.getD (i % L.length) 0) := by simp [cycL, h]
theorem rotK_lt (n : Int) {L : List Int} (h : 0 < L.length) : rotK n L < L.length := by
  have h1 := Int.emod_lt_of_pos n (show (0 : Int) < (L.length : Int) by omega)
  have h2 := Int.emod_nonneg n (show (L.length : Int) ≠ 0 by omega)
  unfold rotK
  omega
theorem rotL_len (n : Int) (L : List Int) : (rotL n L).length = L.length := by simp [rotL]; omega
theorem rotL_mem {n : Int} {L : List Int} {x : Int} : x ∈ rotL n L ↔ x ∈ L := by
  unfold rotL
  rw [List.mem_append]
  have : x ∈ L ↔ x ∈ L.take (rotK n L) ++ L.drop (rotK n L) := by rw [List.take_append_drop]
  rw [this, List.mem_append]
  exact Or.comm
theorem rotL_at {n : Int} {L : List Int} {i : Nat} (h : i < L.length) : (rotL n L)[i]? = L[(rotK n L + i) % L.length]? := by
  have hk := rotK_lt n (show 0 < L.length by omega)
  unfold rotL
  rw [List.getElem?_append]
  split
  · rename_i h1
    rw [List.length_drop] at h1
    rw [List.getElem?_drop, Nat.mod_eq_of_lt (by omega)]
  · rename_i h1
    rw [List.length_drop] at h1 ⊢
    rw [List.getElem?_take, if_pos (by omega)]
    congr 1
    rw [Nat.mod_eq_sub_mod (by omega), Nat.mod_eq_of_lt (by omega)]
    omega
theorem rot_back (n : Int) (L : List Int) : rotL (-n) (rotL n L) = L := by
  apply List.ext_getElem?
  intro i
  by_cases hi : i < L.length
  · have hl := rotL_len n L
    rw [rotL_at (by rw [hl]; exact hi), hl, rotL_at (Nat.mod_lt _ (by omega))]
    congr 1
    have e1 : (rotK (-n) (rotL n L) : Int) = (-n) % (L.length : Int) := by
      unfold rotK; rw [hl]
      exact Int.toNat_of_nonneg (Int.emod_nonneg _ (by omega))
    have e2 : (rotK n L : Int) = n % (L.length : Int) := by
      unfold rotK
      exact Int.toNat_of_nonneg (Int.emod_nonneg _ (by omega))
    have : (((rotK n L + (rotK (-n) (rotL n L) + i) % L.length) % L.length : Nat) : Int) = (i : Int) := by
      push_cast
      rw [e1, e2]
      simp only [Int.add_emod_emod, Int.emod_add_emod]
      rw [show n + (-n + (i : Int)) = (i : Int) by omega]
      exact Int.emod_eq_of_lt (by omega) (by omega)
    omega
  · rw [List.getElem?_eq_none (by rw [rotL_len, rotL_len]; omega), List.getElem?_eq_none (by omega)]
theorem takeL_len (n : Int) (r : Bool) (L : List Int) : (takeL n r L).length = n.natAbs := by
  unfold takeL tkL
  split <;> simp <;> omega
theorem idxN_le (s : Bool) (A : List Int) (x : Int) : idxN s A x ≤ A.length := by
  unfold idxN
  split
  · exact List.findIdx_le_length
  · exact Nat.le_refl _
end Go.Proofs.YteclpoooggcdoaaGreatDoor.Ar
/- shape: boxes, rows of numbers; what a maker tells. -/
namespace Go.Proofs.YteclpoooggcdoaaGreatDoor.Ar
open Go Go.RowKit

theorem sat_of {α : Type} {L : List α} {k : Nat} (h : k < L.length) : ∃ x, L[k]? = some x := ⟨_, List.getElem?_eq_getElem h⟩
theorem srow3 {W : World} {h : Nat} {t : TypeId} {a b c : Value} (r : Row W h t #[a, b, c]) :
    W.cell? ⟨h, 0, none⟩ = some a ∧ W.cell? ⟨h, 1, none⟩ = some b ∧ W.cell? ⟨h, 2, none⟩ = some c ∧ W.frozen? ⟨h, 0, none⟩ = false ∧ W.frozen? ⟨h, 1, none⟩ = false ∧ W.frozen? ⟨h, 2, none⟩ = false := by
  have c0 := r.cell 0
  have c1 := r.cell 1
  have c2 := r.cell 2
  simp at c0 c1 c2
  exact ⟨c0, c1, c2, r.frozen 0, r.frozen 1, r.frozen 2⟩
theorem srow6 {W : World} {k : Nat} {t : TypeId} {a b c d e f : Value} (r : Row W k t #[a, b, c, d, e, f]) : W.cell? ⟨k, 0, none⟩ = some a ∧ W.cell? ⟨k, 1, none⟩ = some b ∧ W.cell? ⟨k, 2, none⟩ = some c ∧ W.cell? ⟨k, 3, none⟩ = some d ∧ W.cell? ⟨k, 4, none⟩ = some e ∧ W.cell? ⟨k, 5, none⟩ = some f := by
  have c0 := r.cell 0
  have c1 := r.cell 1
  have c2 := r.cell 2
  have c3 := r.cell 3
  have c4 := r.cell 4
  have c5 := r.cell 5
  simp at c0 c1 c2 c3 c4 c5
  exact ⟨c0, c1, c2, c3, c4, c5⟩
theorem srow_set3 {W : World} {h : Nat} {t : TypeId} {a b c : Value} (r : Row W h t #[a, b, c]) (x y z : Value) : Row (((W.setCell ⟨h, 0, none⟩ x).setCell ⟨h, 1, none⟩ y).setCell ⟨h, 2, none⟩ z) h t #[x, y, z] := by
  have := ((r.set 0 x).set 1 y).set 2 z
  simpa using this
/-- Numbers do not lie where an array does. -/
theorem skl_set3 {W : World} {v : Value} {A : List Int} {h : Nat} {t : TypeId} {x y : Bool} {a : Option Addr} {n c : Nat} (hk : KL W v A) (hr : Row W h t #[.bool x, .bool y, .slice a n c]) (p q r : Value) : KL (((W.setCell ⟨h, 0, none⟩ p).setCell ⟨h, 1, none⟩ q).setCell ⟨h, 2, none⟩ r) v A := by
  refine ⟨hk.form, fun h0 => ?_⟩
  obtain ⟨g, o, c0, hv, hg, hc⟩ := hk.cells h0
  have hne : g ≠ h := fun e => by
    subst e
    obtain ⟨z, hz⟩ := sat_of (L := A) (k := 0) h0
    have h1 := (hr.cell (o + 0)).symm.trans (hc 0 z hz)
    match o, h1 with
    | 0, h1 => simp at h1
    | 1, h1 => simp at h1
    | 2, h1 => simp at h1
    | k + 3, h1 => simp at h1
  refine ⟨g, o, c0, hv, by rw [World.size_setCell, World.size_setCell, World.size_setCell]; exact hg, fun j z hz => ?_⟩
  rw [← hc j z hz]
  unfold World.cell?
  rw [Below.heap_setCell _ ⟨h, 2, none⟩ r g hne, Below.heap_setCell _ ⟨h, 1, none⟩ q g hne, Below.heap_setCell _ ⟨h, 0, none⟩ p g hne]
/-- The end of a function that answers an array: the answer's box is written. -/
structure Fin (w W W' : World) (h : Nat) (x y z : Value) : Prop where
  below : Below w.heap.size w W'
  c0 : W'.cell? ⟨h, 0, none⟩ = some x
  c1 : W'.cell? ⟨h, 1, none⟩ = some y
  c2 : W'.cell? ⟨h, 2, none⟩ = some z
  kl : ∀ v A, KL W v A → KL W' v A
theorem fin_of {w W : World} {h : Nat} {t : TypeId} {x y : Bool} {a : Option Addr} {n c : Nat} (hb : Below w.heap.size w W) (hh : w.heap.size ≤ h) (hr : Row W h t #[.bool x, .bool y, .slice a n c]) (p q r : Value) : Fin w W (((W.setCell ⟨h, 0, none⟩ p).setCell ⟨h, 1, none⟩ q).setCell ⟨h, 2, none⟩ r) h p q r := by
  obtain ⟨v0, v1, v2, -, -, -⟩ := srow3 (srow_set3 hr p q r)
  exact ⟨((hb.setCell (p := ⟨h, 0, none⟩) hh _).setCell (p := ⟨h, 1, none⟩) hh _).setCell (p := ⟨h, 2, none⟩) hh _, v0, v1, v2, fun v A hk => skl_set3 hk hr _ _ _⟩
theorem KL.drew' {W : World} {v : Value} {A : List Int} (h : KL W v A) : KL W.drew v A := h.below (Below.refl _ _).drew
/-- A row of numbers, whole. -/
def intV (L : List Int) : Array Value := (nums L).toArray
theorem intV_size (L : List Int) : (intV L).size = L.length := by simp [intV, nums]
theorem intV_at {L : List Int} {k : Nat} {x : Int} (h : L[k]? = some x) : (intV L)[k]? = some (.int .i64 x) := by
  unfold intV
  rw [List.getElem?_toArray]
  exact nums_at h
theorem intV_set (L : List Int) (k : Nat) (x : Int) : (intV L).setIfInBounds k (.int .i64 x) = intV (L.set k x) := by
  apply Array.ext_getElem?
  intro j
  simp only [intV, nums, List.getElem?_toArray, Array.getElem?_setIfInBounds, List.getElem?_map, List.getElem?_set, List.size_toArray, List.length_map]
  by_cases hk : k = j
  · subst hk
    simp only [if_true]
    split <;> simp
  · simp only [if_neg hk]
theorem kl_of_row {W : World} {b : Nat} {L : List Int} (h : Row W b 2 (intV L)) (hn : L.length ≤ 1000) : KL W (.slice (some ⟨b, 0, none⟩) L.length L.length) L := by
  refine ⟨⟨_, L.length, rfl, Nat.le_refl _, by unfold maxLen; omega⟩, fun h0 => ⟨b, 0, L.length, rfl, h.lt, fun j x hx => ?_⟩⟩
  rw [Nat.zero_add, h.cell j]
  exact intV_at hx
theorem row_made {w : World} {n : Nat} {L : List Int} {b base : Nat} (h : w.ownsRow base 2 1 (.slice (some ⟨b, 0, none⟩) n n) n (madeCells (Value.int .i64 0).cells (n * 1)).toList) (hL : L = List.replicate n 0) : Row w b 2 (intV L) := by
  rcases h.2 with ⟨hv, _⟩ | ⟨g', cap', cur, e1, _, e3, _, _, e6, e7⟩
  · cases hv
  · injection e1 with e1 e2 e8
    injection e1 with e1
    injection e1 with e1
    subst e1
    have e : cur = intV L := by
      have h9 : cur.toList = (madeCells (Value.int .i64 0).cells (n * 1)).toList := by rw [← e7, List.take_of_length_le (by rw [Array.length_toList]; omega)]
      rw [hL]
      apply Array.ext_getElem?
      intro j
      rw [← Array.getElem?_toList, h9, Array.getElem?_toList]
      simp only [intV, nums, List.getElem?_toArray, List.getElem?_map, List.getElem?_replicate]
      by_cases hj : j < n
      · rw [if_pos hj]
        simp [madeCells, Value.cells, hj, Nat.mod_one]
      · rw [if_neg hj]
        simp [madeCells]
        omega
    rw [← e]
    exact e3
/-- What a maker tells. -/
def MkOut (c : Int) (r : Ary) (w : World) (e : Ending) (w' : World) : Prop := Below w.heap.size w w' ∧
  ((c = 0 ∧ ∃ v, e = .returned (.tuple #[aryV r v, .nilIface]) ∧ KL w' v r.n) ∨ (c ≠ 0 ∧ e = .returned (.tuple #[.agg #[.bool false, .bool false, .slice none 0 0], sh_faultV c])))
end Go.Proofs.YteclpoooggcdoaaGreatDoor.Ar
/- shape's small functions. -/
namespace Go.Proofs.YteclpoooggcdoaaGreatDoor.Ar
open Go Go.RowKit
attribute [local go_sem] Oper.semAt_some

set_option maxRecDepth 100000 in
theorem fill_c (r : Bool) (w : World) : Calls Tryz.prog 23 #[.bool r] w fun e w' => e = .returned (.int .i64 (fillN r)) ∧ w' = w := by
  cases r
  all_goals
    go_enter Tryz.func23, Tryz.ntmps23
    go_wp2
    go_ret
    exact ⟨rfl, rfl⟩
set_option maxRecDepth 100000 in
set_option maxHeartbeats 1000000 in
theorem blank_c (L R : Bool) (n : Nat) (hn : n ≤ 1000) (w : World) : Calls Tryz.prog 74 #[.bool L, .bool R, .int .i64 (n : Int)] w fun e w' => ∃ b, e = .returned (.agg #[.bool L, .bool R, .slice (some ⟨b, 0, none⟩) n n]) ∧ w.heap.size ≤ b ∧ Row w' b 2 (intV (List.replicate n 0)) ∧ Below w.heap.size w w' := by
  obtain ⟨i0, hi, hz0, hz1, hz2⟩ := infoI
  obtain ⟨w1, hw1⟩ : ∃ w1, w1 = w.alloc (.cells #[.bool false, .bool false, .slice none 0 0] 24) := ⟨_, rfl⟩
  have r1 : Row w1 w.heap.size 24 #[.bool false, .bool false, .slice none 0 0] := by rw [hw1]; exact Row.new _ _ _
  have hb1 : Below w.heap.size w w1 := by rw [hw1]; exact (Below.refl _ _).alloc (Nat.le_refl _) _
  have hs1 : w.heap.size ≤ w1.heap.size := hb1.size
  have HR1 := Lib.hid r1
  have HB1 := Lib.hid hb1
  have HW1 := Lib.hid hw1
  clear r1 hb1 hw1
  go_enter Tryz.func74, Tryz.ntmps74
  go_wp2_with (at_make; refine wpList_make_full _ rfl (.tmp 9) (.tmp 9) 22 rfl 0 2 i0 (.int .i64 0) 1 Tryz.underlying22 hi hz0 hz1 .i64 .i64 _ _ n rfl rfl rfl rfl (by rw [hz2]; omega) (by unfold maxLen; omega) (Nat.zero_le _) ?_; rw [← HW1.out]; intro w2 hown2 hg2; have HO := Lib.hid hown2; have hb12 := (Below.refl w1.heap.size w1).grown hg2 (Nat.le_refl _) (fun k e => by cases e); have HB12 := Lib.hid hb12; obtain ⟨c0, c1, c2, f0, f1, f2⟩ := srow3 (HR1.out.below hb12 HR1.out.lt); clear hown2 hg2 hb12)
  have hf := fin_of (HB1.out.trans (HB12.out.mono hs1)) (Nat.le_refl _) (HR1.out.below HB12.out HR1.out.lt) (.bool L) (.bool R) (.slice (some ⟨w1.heap.size, 0, none⟩) n n)
  have HRM := ((((row_made HO.out rfl).other (j := w.heap.size) (i := 0) (by have := HR1.out.lt; omega) (.bool L)).other (j := w.heap.size) (i := 1) (by have := HR1.out.lt; omega) (.bool R)).other (j := w.heap.size) (i := 2) (by have := HR1.out.lt; omega) (.slice (some ⟨w1.heap.size, 0, none⟩) n n))
  refine bodyPost_ret (v := .agg #[.bool L, .bool R, .slice (some ⟨w1.heap.size, 0, none⟩) n n]) (by simp [results, Tryz.f74, go_sem, hf.c0, hf.c1, hf.c2]) rfl ⟨_, rfl, hs1, HRM, hf.below⟩
set_option maxRecDepth 100000 in
set_option maxHeartbeats 1000000 in
theorem one_num (x : Int) (w : World) : Calls Tryz.prog 76 #[.int .i64 x] w fun e w' => ∃ v, e = .returned (.agg #[.bool false, .bool false, v]) ∧ KL w' v [x] ∧ Below w.heap.size w w' := by
  go_enter Tryz.func76, Tryz.ntmps76
  go_wp2
  refine bodyPost_ret (v := .agg #[.bool false, .bool false, .slice (some ⟨w.heap.size + 1, 0, none⟩) 1 1]) (by simp [results, Tryz.f76, go_sem]) rfl ⟨_, rfl, kl_of_row (L := [x]) (Row.at _ _ _ _ (by simp)) (by simp), ((Below.refl _ _).alloc (Nat.le_refl _) _).alloc (by simp) _⟩
end Go.Proofs.YteclpoooggcdoaaGreatDoor.Ar
/- shape's numbers: number, count. -/
namespace Go.Proofs.YteclpoooggcdoaaGreatDoor.Ar
open Go Go.RowKit
attribute [local go_sem] Oper.semAt_some

/-- A number and an error. -/
def NumOut (c x : Int) (w : World) (e : Ending) (w' : World) : Prop := Below w.heap.size w w' ∧
  ((c = 0 ∧ e = .returned (.tuple #[.int .i64 x, .nilIface])) ∨ (c ≠ 0 ∧ e = .returned (.tuple #[.int .i64 0, sh_faultV c])))
set_option maxRecDepth 100000 in
set_option maxHeartbeats 1000000 in
theorem num_c (a : Ary) (s : Value) (w : World) (hs : KL w s a.n) : Calls Tryz.prog 78 #[aryV a s] w fun e w' => NumOut (numE a) (numV a) w e w' := by
  obtain ⟨aL, aR, aN⟩ := a
  obtain ⟨sa, sc, hsf, -, -⟩ := hs.form
  dsimp only [aryV] at *
  obtain ⟨n, hn⟩ : ∃ n, n = aN.length := ⟨_, rfl⟩
  rw [← hn] at hsf
  subst hsf
  have hb1 : Below w.heap.size w (w.alloc (.cells #[.bool aL, .bool aR, .slice sa n sc] 24)) := (Below.refl _ _).alloc (Nat.le_refl _) _
  have hk := hs.below hb1
  have HB := Lib.hid hb1
  by_cases h1 : n = 1
  · subst h1
    obtain ⟨g, o, c1, hv, hg, hc⟩ := hk.cells (by rw [← hn]; exact Nat.one_pos)
    obtain rfl : sa = some ⟨g, o, none⟩ := by injection hv
    obtain ⟨x, hx⟩ := sat_of (L := aN) (k := 0) (by omega)
    have c0 := hc 0 x hx
    rw [Nat.add_zero] at c0
    have HV : Hid (numV ⟨aL, aR, aN⟩ = x) := Lib.hid (by
      cases aN with
      | nil => cases hx
      | cons y L => simp at hx; simp [numV, hx])
    have HE : Hid (numE ⟨aL, aR, aN⟩ = if aR then 102 else 0) := Lib.hid (by simp [numE, ← hn])
    clear hs hb1 hk hn hv hg hc hx
    cases aR
    · go_enter Tryz.func78, Tryz.ntmps78
      go_wp2
      go_ret2
      exact ⟨HB.out, .inl ⟨HE.out, by rw [HV.out]; rfl⟩⟩
    · go_enter Tryz.func78, Tryz.ntmps78
      go_wp2
      go_ret2
      exact ⟨HB.out, .inr ⟨by rw [HE.out]; decide, by rw [HE.out]; rfl⟩⟩
  · have HE : Hid (numE ⟨aL, aR, aN⟩ = 111) := Lib.hid (by rw [numE, if_neg (by show ¬ aN.length = 1; omega)])
    have h2 : ¬ (n : Int) = 1 := by omega
    clear hs hb1 hk hn
    go_enter Tryz.func78, Tryz.ntmps78
    go_wp2
    go_ret2
    exact ⟨HB.out, .inr ⟨by rw [HE.out]; decide, by rw [HE.out]; rfl⟩⟩
set_option maxRecDepth 100000 in
set_option maxHeartbeats 1000000 in
theorem cnt_c (a : Ary) (s : Value) (w : World) (hs : KL w s a.n) : Calls Tryz.prog 77 #[aryV a s] w fun e w' => NumOut (cntE a) (numV a) w e w' := by
  have hb1 : Below w.heap.size w (w.alloc (.cells #[.bool a.list, .bool a.runes, s] 24)) := (Below.refl _ _).alloc (Nat.le_refl _) _
  have HC := Lib.hid (num_c a s _ (hs.below hb1))
  have HB := Lib.hid hb1
  obtain ⟨c, hc⟩ : ∃ c, c = numE a := ⟨_, rfl⟩
  obtain ⟨x, hx⟩ : ∃ x, x = numV a := ⟨_, rfl⟩
  have HE : Hid (cntE a = if c = 0 then (if x < 0 then 102 else if 200 < x then 113 else 0) else c) := Lib.hid (by rw [hc, hx]; rfl)
  rw [← hc, ← hx] at HC
  rw [← hx]
  obtain ⟨ce, hce⟩ : ∃ ce, ce = cntE a := ⟨_, rfl⟩
  rw [← hce] at HE ⊢
  clear hce hc hx
  obtain ⟨aL, aR, aN⟩ := a
  obtain ⟨sa, sc, hsf, -, -⟩ := hs.form
  dsimp only [aryV] at *
  subst hsf
  clear hs hb1
  by_cases h0 : c = 0
  · by_cases h1 : x < 0
    · have HE' : Hid (ce = 102) := Lib.hid (by rw [HE.out, if_pos h0, if_pos h1])
      go_enter Tryz.func77, Tryz.ntmps77
      go_wp2_with (go_at_call 78; refine HC.out.mono ?_; rintro e w1 ⟨hb, ⟨_, rfl⟩ | ⟨h, _⟩⟩; rotate_left; exact absurd h0 h)
      go_ret2
      exact ⟨HB.out.trans (hb.mono HB.out.size), .inr ⟨by rw [HE'.out]; decide, by rw [HE'.out]; rfl⟩⟩
    · by_cases h2 : 200 < x
      · have HE' : Hid (ce = 113) := Lib.hid (by rw [HE.out, if_pos h0, if_neg h1, if_pos h2])
        go_enter Tryz.func77, Tryz.ntmps77
        go_wp2_with (go_at_call 78; refine HC.out.mono ?_; rintro e w1 ⟨hb, ⟨_, rfl⟩ | ⟨h, _⟩⟩; rotate_left; exact absurd h0 h)
        go_ret2
        exact ⟨HB.out.trans (hb.mono HB.out.size), .inr ⟨by rw [HE'.out]; decide, by rw [HE'.out]; rfl⟩⟩
      · have HE' : Hid (ce = 0) := Lib.hid (by rw [HE.out, if_pos h0, if_neg h1, if_neg h2])
        go_enter Tryz.func77, Tryz.ntmps77
        go_wp2_with (go_at_call 78; refine HC.out.mono ?_; rintro e w1 ⟨hb, ⟨_, rfl⟩ | ⟨h, _⟩⟩; rotate_left; exact absurd h0 h)
        go_ret2
        exact ⟨HB.out.trans (hb.mono HB.out.size), .inl ⟨HE'.out, rfl⟩⟩
  · have HE' : Hid (ce = c) := Lib.hid (by rw [HE.out, if_neg h0])
    go_enter Tryz.func77, Tryz.ntmps77
    go_wp2_with (go_at_call 78; refine HC.out.mono ?_; rintro e w1 ⟨hb, ⟨h, _⟩ | ⟨_, rfl⟩⟩; exact absurd h h0)
    go_ret2
    exact ⟨HB.out.trans (hb.mono HB.out.size), .inr ⟨by rw [HE'.out]; exact h0, by rw [HE'.out]; rfl⟩⟩
end Go.Proofs.YteclpoooggcdoaaGreatDoor.Ar
/- shape's join: which runes, all items one behind the other. -/
namespace Go.Proofs.YteclpoooggcdoaaGreatDoor.Ar
open Go Go.RowKit
attribute [local go_sem] Oper.semAt_some

def splI (L : List Int) (o : Nat) (A : List Int) : List Int := L.take o ++ A ++ L.drop (o + A.length)
theorem splI_len (L : List Int) (o : Nat) (A : List Int) (h : o + A.length ≤ L.length) : (splI L o A).length = L.length := by simp [splI]; omega
theorem saddr_add (g o j : Nat) : (⟨g, o, none⟩ : Addr).add j = ⟨g, o + j, none⟩ := by unfold Addr.add; split <;> simp_all
theorem infoIs : (Tryz.prog.info? 2).map (·.size) = some 1 := by
  obtain ⟨i, h1, _, h2, _⟩ := infoI
  rw [h1]
  exact congrArg some h2
/-- copy of numbers into a row that is known whole. -/
theorem run_copy_kl (w : World) (b o dLen dCap : Nat) (v : Value) (A L : List Int) (hk : KL w v A) (hr : Row w b 2 (intV L)) (hfit : o + (A.take dLen).length ≤ L.length) :
    (Builtin.copy_ #[22, 22] 3 #[.slice (some ⟨b, o, none⟩) dLen dCap, v]).run Tryz.prog w = .ok (goInt (A.take dLen).length) (w.setRow b (intV (splI L o (A.take dLen)))) := by
  obtain ⟨a0, c0, rfl, -, -⟩ := hk.form
  by_cases h0 : (A.take dLen).length = 0
  · have hs : splI L o (A.take dLen) = L := by
      rw [List.eq_nil_of_length_eq_zero h0]
      simp [splI]
    rw [hs, h0, setRow_self w b _ 2 (0, 0) hr]
    rw [List.length_take] at h0
    exact run_copy_none w _ _ _ 2 _ _ _ _ _ _ Tryz.underlying22 infoIs (by show min A.length dLen = 0; omega)
  · rw [List.length_take] at h0
    obtain ⟨g, p, c1, hv, hg, hc⟩ := hk.cells (by omega)
    obtain rfl : a0 = some ⟨g, p, none⟩ := by injection hv
    have e := run_copy_row (P := Tryz.prog) w 22 22 3 2 b o dLen dCap ⟨g, p, none⟩ A.length c0 (intV L) 2 (nums (A.take dLen)) Tryz.underlying22 infoIs hr (by rw [nums_len, List.length_take]; exact Nat.min_comm _ _)
      (fun j x hx => by
        rw [saddr_add]
        have hj : j < (A.take dLen).length := by rw [← nums_len]; exact (List.getElem?_eq_some_iff.1 hx).1
        obtain ⟨y, hy⟩ := sat_of hj
        rw [nums_at hy] at hx
        injection hx with hx
        rw [← hx]
        refine hc j y ?_
        rw [List.length_take] at hj
        rw [List.getElem?_take, if_pos (by omega)] at hy
        exact hy)
      (by rw [nums_len, intV_size]; exact hfit) (fun x hx => by
        obtain ⟨y, -, rfl⟩ := List.mem_map.1 hx
        rfl)
    have e2 : ((intV L).toList.take o ++ nums (A.take dLen) ++ (intV L).toList.drop (o + (nums (A.take dLen)).length)).toArray = intV (splI L o (A.take dLen)) := by simp [splI, intV, nums]
    rw [e2, nums_len] at e
    exact e
theorem run_copy_no (w : World) (d : Option Addr) (dCap : Nat) (v : Value) (A : List Int) (hk : KL w v A) :
    (Builtin.copy_ #[22, 22] 3 #[.slice d 0 dCap, v]).run Tryz.prog w = .ok (goInt 0) w := by
  obtain ⟨a0, c0, rfl, -, -⟩ := hk.form
  exact run_copy_none w _ _ _ 2 _ _ _ _ _ _ Tryz.underlying22 infoIs (Nat.min_zero _)
theorem row_copied {w : World} {b : Nat} {L : List Int} (hr : Row w b 2 (intV L)) (L' : List Int) : Row (w.setRow b (intV L')) b 2 (intV L') := setRow_heap w b _ _ _ (0, 0) hr
/-- Some arrays lie one behind the other. -/
def JAt (W : World) (b o : Nat) (As : List Ary) : Prop := b < W.heap.size ∧ ∀ j a, As[j]? = some a → ∃ s, W.cell? ⟨b, o + j * 3, none⟩ = some (.bool a.list) ∧ W.cell? ⟨b, o + j * 3 + 1, none⟩ = some (.bool a.runes) ∧ W.cell? ⟨b, o + j * 3 + 2, none⟩ = some s ∧ KL W s a.n
theorem JAt.below {W W' : World} {b o : Nat} {As : List Ary} (h : JAt W b o As) (hb : Below W.heap.size W W') : JAt W' b o As := by
  refine ⟨Nat.lt_of_lt_of_le h.1 hb.size, fun j a hj => ?_⟩
  obtain ⟨s, h1, h2, h3, h4⟩ := h.2 j a hj
  exact ⟨s, (hb.cell (p := ⟨b, _, none⟩) h.1).trans h1, (hb.cell (p := ⟨b, _, none⟩) h.1).trans h2, (hb.cell (p := ⟨b, _, none⟩) h.1).trans h3, h4.below hb⟩
theorem jat_one {W : World} {a : Ary} {s : Value} (hs : KL W s a.n) : JAt (W.alloc (.cells #[.bool a.list, .bool a.runes, s] 24)) W.heap.size 0 [a] := by
  refine ⟨by rw [World.size_alloc]; exact Nat.lt_succ_self _, fun j x hj => ?_⟩
  have hjl : j < 1 := (List.getElem?_eq_some_iff.1 hj).1
  obtain rfl : j = 0 := by omega
  obtain rfl : a = x := by simpa using hj
  refine ⟨s, ?_, ?_, ?_, hs.below ((Below.refl _ _).alloc (Nat.le_refl _) _)⟩ <;> simp
theorem jat_two {W : World} {a b : Ary} {s t : Value} (hs : KL W s a.n) (ht : KL W t b.n) : JAt (W.alloc (.cells #[.bool a.list, .bool a.runes, s, .bool b.list, .bool b.runes, t] 24)) W.heap.size 0 [a, b] := by
  refine ⟨by rw [World.size_alloc]; exact Nat.lt_succ_self _, fun j x hx => ?_⟩
  have hjl : j < 2 := (List.getElem?_eq_some_iff.1 hx).1
  have hb := (Below.refl W.heap.size W).alloc (Nat.le_refl _) (.cells #[.bool a.list, .bool a.runes, s, .bool b.list, .bool b.runes, t] 24)
  obtain rfl | rfl : j = 0 ∨ j = 1 := by omega
  · obtain rfl : a = x := by simpa using hx
    refine ⟨s, ?_, ?_, ?_, hs.below hb⟩ <;> simp
  · obtain rfl : b = x := by simpa using hx
    refine ⟨t, ?_, ?_, ?_, ht.below hb⟩ <;> simp

set_option maxRecDepth 100000 in
set_option maxHeartbeats 4000000 in
theorem areRunes_c (b o c : Nat) (As : List Ary) (w : World) (hA : JAt w b o As) (hl : As.length ≤ 1000) : Calls Tryz.prog 91 #[.slice (some ⟨b, o, none⟩) As.length c] w fun e w' => e = .returned (.bool (hasAny As)) ∧ Below w.heap.size w w' := by
  have HA := Lib.hid hA
  obtain ⟨n, hn⟩ : ∃ n, n = As.length := ⟨_, rfl⟩
  have HLen := Lib.hid hn
  rw [← hn] at hl ⊢
  clear hA hn
  go_enter Tryz.func91, Tryz.ntmps91
  go_wp2
  go_loopw [3, 8] (fun l i wr => ∃ (k : Nat) (al : Bool), k ≤ n ∧ i = .int .i64 (k : Int) ∧ l = .bool al ∧ al = (As.take k).all (fun a => a.runes) ∧ Below w.heap.size w wr ∧ ∀ a ∈ As.take k, hasR a = false) (fun l i _ => n - (intOf i).toNat)
  case atStart => exact ⟨0, true, Nat.zero_le _, rfl, rfl, by simp, Below.refl _ _, by simp⟩
  case round =>
    obtain ⟨k, al, hk, rfl, rfl, hal, hb, hno⟩ := hrel
    have HNO := Lib.hid hno
    have HAL := Lib.hid hal
    have HB := Lib.hid hb
    clear hno hal
    by_cases hlt : k < n
    · obtain ⟨a, ha⟩ := sat_of (L := As) (k := k) (by rw [← HLen.out]; exact hlt)
      obtain ⟨s, c0, c1, c2, hs⟩ := (HA.out.below hb).2 k a ha
      have HX := Lib.hid ha
      obtain ⟨L, R, N⟩ := a
      dsimp only at c0 c1
      obtain ⟨sa, sc, hsf, -, -⟩ := hs.form
      obtain ⟨m, hm⟩ : ∃ m, m = (⟨L, R, N⟩ : Ary).n.length := ⟨_, rfl⟩
      rw [← hm] at hsf
      subst hsf
      have HR : Hid (hasR ⟨L, R, N⟩ = (R && decide (0 < m))) := Lib.hid (by rw [hm]; rfl)
      have HB1 := Lib.hid (HB.out.trans (((Below.refl wr.heap.size wr).alloc (Nat.le_refl _) (.cells #[.bool L, .bool R, .slice sa m sc] 24)).mono HB.out.size))
      have HAL2 : Hid ((al && R) = (As.take (k + 1)).all (fun a => a.runes)) := Lib.hid (by
        rw [List.take_add_one, HX.out, List.all_append, ← HAL.out]
        simp)
      clear ha hs hb hm
      by_cases h0 : R = true ∧ 0 < m
      · obtain ⟨rfl, h0⟩ := h0
        have h1 : (0 : Int) < (m : Int) := by omega
        go_wp2
        go_ret
        refine ⟨?_, HB1.out⟩
        have : As.any hasR = true := by
          rw [List.any_eq_true]
          exact ⟨_, List.mem_of_getElem? HX.out, by rw [HR.out]; simp [h0]⟩
        rw [hasAny, this]
        rfl
      · have HNR : Hid (∀ y ∈ As.take (k + 1), hasR y = false) := Lib.hid (fun y hy => by
          rw [List.take_add_one, HX.out, List.mem_append] at hy
          rcases hy with hy | hy
          · exact HNO.out y hy
          · simp at hy
            rw [hy, HR.out]
            cases R
            · rfl
            · have : ¬ 0 < m := fun h => h0 ⟨rfl, h⟩
              simp [this])
        have h1 : R = true → ¬ (0 : Int) < (m : Int) := fun e h => h0 ⟨e, by omega⟩
        cases R
        · cases al
          all_goals
            go_wp2
            go_roundw
            case rel => exact ⟨k + 1, _, by omega, by go_num, rfl, HAL2.out, HB1.out, HNR.out⟩
            case measure => simp [intOf]; omega
        · have h2 := h1 rfl
          cases al
          all_goals
            go_wp2
            go_roundw
            case rel => exact ⟨k + 1, _, by omega, by go_num, rfl, HAL2.out, HB1.out, HNR.out⟩
            case measure => simp [intOf]; omega
    · have hkn : k = n := by omega
      subst hkn
      clear hb
      go_wp2
      go_ret
      refine ⟨?_, HB.out⟩
      have e1 : As.any hasR = false := by
        rw [List.any_eq_false]
        intro x hx
        have := HNO.out x (by rw [HLen.out, List.take_length]; exact hx)
        simp [this]
      have e2 := HAL.out
      rw [HLen.out, List.take_length] at e2
      rw [hasAny, e1, ← e2]
      rfl
end Go.Proofs.YteclpoooggcdoaaGreatDoor.Ar
/- shape's join. -/
namespace Go.Proofs.YteclpoooggcdoaaGreatDoor.Ar
open Go Go.RowKit
attribute [local go_sem] Oper.semAt_some

theorem flat_succ {As : List Ary} {k : Nat} {a : Ary} (h : As[k]? = some a) : flatN (As.take (k + 1)) = flatN (As.take k) ++ a.n := by
  rw [List.take_add_one, h]
  simp [flatN]
theorem flat_le (As : List Ary) (k : Nat) : (flatN (As.take k)).length ≤ (flatN As).length := by
  have : flatN As = flatN (As.take k) ++ flatN (As.drop k) := by
    unfold flatN
    rw [← List.flatten_append, ← List.map_append, List.take_append_drop]
  rw [this, List.length_append]
  omega
theorem splI_next (F A : List Int) (m : Nat) (h : F.length + A.length ≤ m) : splI (F ++ List.replicate (m - F.length) 0) F.length A = (F ++ A) ++ List.replicate (m - (F ++ A).length) 0 := by
  unfold splI
  rw [List.take_left' rfl, List.drop_append, List.drop_eq_nil_of_le (by omega), List.nil_append, List.drop_replicate, List.length_append]
  congr 2
  omega
set_option maxRecDepth 100000 in
set_option maxHeartbeats 8000000 in
theorem join_c (b o c : Nat) (As : List Ary) (w : World) (hA : JAt w b o As) (hl : As.length ≤ 1000) (hf : (flatN As).length ≤ 1000) : Calls Tryz.prog 75 #[.slice (some ⟨b, o, none⟩) As.length c] w fun e w' => ∃ v, e = .returned (.agg #[.bool true, .bool (hasAny As), v]) ∧ KL w' v (flatN As) ∧ Below w.heap.size w w' := by
  have HA := Lib.hid hA
  have HAR := Lib.hid (fun W h => areRunes_c b o c As W h hl)
  obtain ⟨n, hn⟩ : ∃ n, n = As.length := ⟨_, rfl⟩
  obtain ⟨H, hH⟩ : ∃ H, H = hasAny As := ⟨_, rfl⟩
  have HLen := Lib.hid hn
  rw [← hn] at hl HAR ⊢
  rw [← hH] at HAR ⊢
  obtain ⟨w1, hw1⟩ : ∃ w1, w1 = w.alloc (.cells #[.bool false, .bool false, .slice none 0 0] 24) := ⟨_, rfl⟩
  have r1 : Row w1 w.heap.size 24 #[.bool false, .bool false, .slice none 0 0] := by rw [hw1]; exact Row.new _ _ _
  have hb1 : Below w.heap.size w w1 := by rw [hw1]; exact (Below.refl _ _).alloc (Nat.le_refl _) _
  have HR1 := Lib.hid r1
  have HB1 := Lib.hid hb1
  have HW1 := Lib.hid hw1
  have HF := Lib.hid hf
  clear hA hn hH r1 hb1 hw1
  go_enter Tryz.func75, Tryz.ntmps75
  go_wp2
  go_loopw [3, 12] (fun s i wr => ∃ k q : Nat, k ≤ n ∧ i = .int .i64 (k : Int) ∧ s = .int .i64 (q : Int) ∧ q = (flatN (As.take k)).length ∧ Below w1.heap.size w1 wr) (fun s i _ => n - (intOf i).toNat)
  case atStart => exact ⟨0, 0, Nat.zero_le _, rfl, rfl, rfl, by rw [HW1.out]; exact Below.refl _ _⟩
  case round =>
    obtain ⟨k, q, hk, rfl, rfl, hq, hb⟩ := hrel
    have HQ := Lib.hid hq
    have HB := Lib.hid hb
    have hq0 := flat_le As k
    rw [← hq] at hq0
    have hqb : q ≤ 1000 := Nat.le_trans hq0 hf
    have hbw := HB1.out.trans (hb.mono HB1.out.size)
    have HBW := Lib.hid hbw
    clear hq hq0
    by_cases hlt : k < n
    · obtain ⟨a, ha⟩ := sat_of (L := As) (k := k) (by rw [← HLen.out]; exact hlt)
      obtain ⟨s, c0, c1, c2, hs⟩ := (HA.out.below hbw).2 k a ha
      have hq1 := flat_le As (k + 1)
      rw [flat_succ ha, List.length_append, ← HQ.out] at hq1
      have HX := Lib.hid ha
      obtain ⟨L, R, N⟩ := a
      dsimp only at c0 c1 hq1
      obtain ⟨sa, sc, hsf, -, -⟩ := hs.form
      obtain ⟨m, hm⟩ : ∃ m, m = (⟨L, R, N⟩ : Ary).n.length := ⟨_, rfl⟩
      rw [← hm] at hsf
      subst hsf
      have hm1 : m ≤ 1000 := by rw [hm]; show N.length ≤ 1000; omega
      have HQ1 : Hid (q + m = (flatN (As.take (k + 1))).length) := Lib.hid (by rw [flat_succ HX.out, List.length_append, ← HQ.out, hm])
      have HBx := Lib.hid (HB.out.trans (((Below.refl wr.heap.size wr).alloc (Nat.le_refl _) (.cells #[.bool L, .bool R, .slice sa m sc] 24)).mono HB.out.size))
      clear ha hs hb hbw hm hq1
      go_wp2
      go_roundw
      case rel => exact ⟨k + 1, q + m, by omega, by go_num, by go_num, HQ1.out, HBx.out⟩
      case measure => simp [intOf]; omega
    · have hkn : k = n := by omega
      subst hkn
      have HQ2 : Hid (q = (flatN As).length) := Lib.hid (by rw [HQ.out, HLen.out, List.take_length])
      have HC := Lib.hid (HAR.out wr (HA.out.below hbw))
      have HBL := Lib.hid (fun W => blank_c true H q hqb W)
      clear hb hbw HAR
      go_wp2_with (first
        | (go_at_call 91; refine HC.out.mono ?_; rintro e w3 ⟨rfl, hb3⟩; have HB3 := Lib.hid (HB.out.trans (hb3.mono HB.out.size)); clear hb3)
        | (go_at_call 74; refine (HBL.out _).mono ?_; rintro e w4 ⟨mb, rfl, hmb, hrow, hb4⟩; have HB4 := Lib.hid (HB3.out.trans (hb4.mono HB3.out.size)); have HROW := Lib.hid hrow; have HMB := Lib.hid (Nat.le_trans HB3.out.size hmb); clear hb4 hrow hmb))
      obtain ⟨w5, hw5⟩ : ∃ w5, w5 = w4.alloc (.cells #[.bool true, .bool H, .slice (some ⟨mb, 0, none⟩) q q] 24) := ⟨_, rfl⟩
      have h45 : Below w4.heap.size w4 w5 := by rw [hw5]; exact (Below.refl _ _).alloc (Nat.le_refl _) _
      have r5 : Row w5 w4.heap.size 24 #[.bool true, .bool H, .slice (some ⟨mb, 0, none⟩) q q] := by rw [hw5]; exact Row.new _ _ _
      have h15 := HB4.out.trans (h45.mono HB4.out.size)
      have rm5 := HROW.out.below h45 HROW.out.lt
      have HW5 := Lib.hid hw5
      have HR5 := Lib.hid r5
      have HM5 := Lib.hid rm5
      have H15 := Lib.hid h15
      have HML := Lib.hid HROW.out.lt
      clear hw5 r5 h45 h15 rm5
      have hne1 : mb ≠ w4.heap.size := by have := HML.out; omega
      go_loopw [7, 28] (fun s i wr => ∃ j q1 : Nat, j ≤ k ∧ i = .int .i64 (j : Int) ∧ s = .int .i64 (q1 : Int) ∧ q1 = (flatN (As.take j)).length ∧ Below w1.heap.size w1 wr ∧ Row wr w4.heap.size 24 #[.bool true, .bool H, .slice (some ⟨mb, 0, none⟩) q q] ∧ Row wr mb 2 (intV (flatN (As.take j) ++ List.replicate (q - q1) 0))) (fun s i _ => k - (intOf i).toNat)
      case atStart => exact ⟨0, 0, Nat.zero_le _, rfl, rfl, rfl, by rw [← HW5.out]; exact H15.out, by rw [← HW5.out]; exact HR5.out, by rw [← HW5.out]; exact HM5.out⟩
      case round =>
        obtain ⟨j, q1, hj, rfl, rfl, hq, hb, hr5, hrm⟩ := hrel
        have hq0 := flat_le As j
        rw [← hq, ← HQ2.out] at hq0
        have hbw := HB1.out.trans (hb.mono HB1.out.size)
        by_cases hlt : j < k
        · obtain ⟨a, ha⟩ := sat_of (L := As) (k := j) (by rw [← HLen.out]; exact hlt)
          obtain ⟨s, c0, c1, c2, hs⟩ := (HA.out.below hbw).2 j a ha
          have hq1 := flat_le As (j + 1)
          have hnx := flat_succ ha
          rw [hnx, List.length_append, ← hq, ← HQ2.out] at hq1
          obtain ⟨L, R, N⟩ := a
          dsimp only at c0 c1 hq1 hnx
          obtain ⟨sa, sc, hsf, -, -⟩ := hs.form
          obtain ⟨m, hm⟩ : ∃ m, m = (⟨L, R, N⟩ : Ary).n.length := ⟨_, rfl⟩
          rw [← hm] at hsf
          subst hsf
          have hm' : m = N.length := hm
          rw [← hm'] at hq1
          obtain ⟨p, hp⟩ : ∃ p, p = q1 + m := ⟨_, rfl⟩
          have hp1 : p ≤ 1000 := by omega
          have es2 : (q1 : Int) + (m : Int) = (p : Int) := by omega
          obtain ⟨w6, hw6⟩ : ∃ w6, w6 = wr.alloc (.cells #[.bool L, .bool R, .slice sa m sc] 24) := ⟨_, rfl⟩
          have h6 : Below wr.heap.size wr w6 := by rw [hw6]; exact (Below.refl _ _).alloc (Nat.le_refl _) _
          have h6d : Below wr.heap.size wr w6.drew := h6.drew
          have hk6 := hs.below h6d
          have r6 : Row w6.drew wr.heap.size 24 #[.bool L, .bool R, .slice sa m sc] := by rw [hw6]; exact Row.new _ _ _
          have r56 := hr5.below h6d hr5.lt
          have rm6 := hrm.below h6d hrm.lt
          have h16 := hb.trans (h6d.mono hb.size)
          have hmw : w1.heap.size ≤ mb := HMB.out
          have HP : Hid (p = (flatN (As.take (j + 1))).length) := Lib.hid (by rw [hnx, List.length_append, ← hq, hp, hm'])
          have HNX : Hid (∀ W, W = w6.drew.setRow mb (intV (flatN (As.take (j + 1)) ++ List.replicate (q - p) 0)) → Below w1.heap.size w1 W ∧ Row W w4.heap.size 24 #[.bool true, .bool H, .slice (some ⟨mb, 0, none⟩) q q] ∧ Row W mb 2 (intV (flatN (As.take (j + 1)) ++ List.replicate (q - p) 0))) := Lib.hid (fun W e => by
            rw [e]
            exact ⟨below_setRow h16 hmw _, (setRow_other _ _ _ _ (fun e => hne1 e.symm)).trans r56, row_copied rm6 _⟩)
          have hsp : splI (flatN (As.take j) ++ List.replicate (q - q1) 0) q1 N = flatN (As.take (j + 1)) ++ List.replicate (q - p) 0 := by
            have := splI_next (flatN (As.take j)) N q (by rw [← hq, ← hm']; exact hq1)
            rw [← hq] at this
            rw [this, hnx, HP.out, hnx]
          have hlen : (flatN (As.take j) ++ List.replicate (q - q1) 0).length = q := by rw [List.length_append, List.length_replicate, ← hq]; omega
          obtain ⟨w7, hw7⟩ : ∃ w7, w7 = w6.drew.setRow mb (intV (flatN (As.take (j + 1)) ++ List.replicate (q - p) 0)) := ⟨_, rfl⟩
          by_cases hcap : q = q1
          · have hm0 : N = [] := List.eq_nil_of_length_eq_zero (by omega)
            have hcp := run_copy_no w6.drew (some ⟨mb, 0, none⟩) 0 _ _ hk6
            have h7 : w6.drew = w7 := by
              rw [hw7, ← hsp, hm0]
              have : splI (flatN (As.take j) ++ List.replicate (q - q1) 0) q1 [] = flatN (As.take j) ++ List.replicate (q - q1) 0 := by simp [splI]
              rw [this]
              exact (setRow_self _ _ _ _ (0, 0) rm6).symm
            change _ = Result.ok (Value.int .i64 0) _ at hcp
            have HN7 := Lib.hid (HNX.out w7 hw7)
            have HW6 := Lib.hid hw6
            have H67 := Lib.hid h7
            obtain ⟨d0, d1, d2, -, -, -⟩ := srow3 r56
            obtain ⟨e0, e1, e2, -, -, -⟩ := srow3 r6
            have hmz : m = 0 := by rw [hm', hm0]; rfl
            have hpz : p = q1 := by omega
            have HPP := Lib.hid hp
            clear hq hr5 hrm hb hbw ha hs hnx hm' h6 h6d hk6 r6 r56 rm6 h16 hsp hlen hw6 hw7 HNX hp hm0 h7 hm
            subst hpz
            subst hmz
            subst hcap
            go_wp2_with fail
            rw [← HW6.out]
            go_region
            go_wp2_with fail
            go_roundw
            case rel => exact ⟨j + 1, _, by omega, by go_num, rfl, HP.out, by rw [H67.out]; exact HN7.out.1, by rw [H67.out]; exact HN7.out.2.1, by rw [H67.out]; exact HN7.out.2.2⟩
            case measure => simp [intOf]; omega
          · have hcp := run_copy_kl w6.drew mb q1 (q - q1) (q - q1) _ _ _ hk6 rm6 (by rw [hlen, List.length_take]; omega)
            rw [show (⟨L, R, N⟩ : Ary).n = N from rfl, List.take_of_length_le (by omega), hsp, ← hw7, ← hm'] at hcp
            change _ = Result.ok (Value.int .i64 (m : Int)) _ at hcp
            have HN7 := Lib.hid (HNX.out w7 hw7)
            have es1 : (q : Int) - (q1 : Int) = ((q - q1 : Nat) : Int) := by omega
            have HW6 := Lib.hid hw6
            obtain ⟨d0, d1, d2, -, -, -⟩ := srow3 r56
            obtain ⟨e0, e1, e2, -, -, -⟩ := srow3 r6
            have hlt2 : q1 < q := by omega
            have HPP := Lib.hid hp
            clear hq hr5 hrm hb hbw ha hs hnx hm hm' h6 h6d hk6 r6 r56 rm6 h16 hsp hlen hw6 hw7 HNX hp
            go_wp2_with fail
            rw [← HW6.out]
            go_region
            go_wp2_with fail
            go_roundw
            case rel => exact ⟨j + 1, p, by omega, by go_num, rfl, HP.out, HN7.out.1, HN7.out.2.1, HN7.out.2.2⟩
            case measure => simp [intOf]; omega
        · have hjk : j = k := by omega
          subst hjk
          have hq9 : q = q1 := by rw [hq, HQ2.out, HLen.out, List.take_length]
          have hfl : flatN (As.take j) ++ List.replicate (q - q1) 0 = flatN As := by rw [hq9, Nat.sub_self, List.replicate_zero, List.append_nil, HLen.out, List.take_length]
          rw [hfl] at hrm
          subst hq9
          have hkl := kl_of_row hrm hf
          rw [← HQ2.out] at hkl
          have HFN := Lib.hid (fin_of hbw (Nat.le_refl _) (HR1.out.below hb HR1.out.lt) (.bool true) (.bool H) (.slice (some ⟨mb, 0, none⟩) q q))
          have HKL := Lib.hid (HFN.out.kl _ _ hkl)
          obtain ⟨c0, c1, c2, -, -, -⟩ := srow3 hr5
          obtain ⟨d0, d1, d2, f0, f1, f2⟩ := srow3 (HR1.out.below hb HR1.out.lt)
          clear hq hb hr5 hrm hbw hfl hkl hq0
          go_wp2_with fail
          refine bodyPost_ret (v := .agg #[.bool true, .bool H, .slice (some ⟨mb, 0, none⟩) q q]) (by simp [results, Tryz.f75, go_sem, HFN.out.c0, HFN.out.c1, HFN.out.c2]) rfl ⟨_, rfl, HKL.out, HFN.out.below⟩
end Go.Proofs.YteclpoooggcdoaaGreatDoor.Ar
