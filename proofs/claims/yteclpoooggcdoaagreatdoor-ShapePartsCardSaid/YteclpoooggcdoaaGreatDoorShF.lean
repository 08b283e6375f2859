/- Merged by gen/sh_merge.py: ShFind, ShAll, ShEq, ShRep. -/
import Derived.Test.YteclpoooggcdoaaGreatDoorShA
import Derived.Maps.Own
import Derived.Test.YteclpoooggcdoaaGreatDoorArLitr
import Derived.Test.YteclpoooggcdoaaGreatDoorShB
import Derived.ScopeJumps
import Derived.Laws.BitsLemmas
import Derived.Test.YteclpoooggcdoaaGreatDoorShelf
/- shape's map of glyphs (by wip/gen/mkshfind.py). -/
namespace Go.Proofs.YteclpoooggcdoaaGreatDoor.Ar
open Go Go.RowKit
attribute [local go_sem] Oper.semAt_some

def sEnt (x : (ByteArray × Value) × Nat) : MapEntry := ⟨.string x.1.1, x.1.2, x.2⟩
def sEntL (l : List (ByteArray × Value)) : List MapEntry := l.zipIdx.map sEnt
theorem sEntL_snoc (l : List (ByteArray × Value)) (k : ByteArray) (v : Value) : sEntL (l ++ [(k, v)]) = sEntL l ++ [⟨.string k, v, l.length⟩] := by
  unfold sEntL
  rw [List.zipIdx_append, List.map_append]
  simp [sEnt]
def sAsk (s : ByteArray) : List ((ByteArray × Value) × Nat) → Nat → Option (Nat × Value)
  | [], _ => none
  | x :: E, i => if s = x.1.1 then some (i, x.1.2) else sAsk s E (i + 1)
theorem sAsk_now (s : ByteArray) : ∀ (E : List ((ByteArray × Value) × Nat)) (i : Nat), Instr.findNow .string (.string s) (E.map sEnt) i = some (sAsk s E i)
  | [], _ => rfl
  | x :: E, i => by
    have ih := sAsk_now s E (i + 1)
    simp only [List.map_cons, Instr.findNow, sEnt, Instr.sameNow, sAsk]
    by_cases h : s = x.1.1
    · have : (s == x.1.1) = true := (Go.MapKept.bytes_beq _ _).2 h
      rw [this, if_pos h]
    · have : (s == x.1.1) = false := by
        cases hb : (s == x.1.1)
        · rfl
        · exact absurd ((Go.MapKept.bytes_beq _ _).1 hb) h
      rw [this, if_neg h]
      exact ih
theorem sFind_s (s : ByteArray) (l : List (ByteArray × Value)) (W : World) : (Instr.findKey 9 (.string s) (sEntL l)).run Tryz.prog W = .ok (sAsk s l.zipIdx 0) W := by
  have h := sAsk_now s l.zipIdx 0
  unfold sEntL
  simp [Instr.findKey, run_underlying Tryz.underlying9, h, Result.andThen]
theorem sCheck_s (W : World) (e : Bool) (s : ByteArray) : (Instr.checkKey e 10000 9 (.string s)).run Tryz.prog W = .ok () W :=
  Go.MapKept.run_checkKey (n := 9999) Tryz.underlying9 (by first | exact trivial | simp [Go.MapKept.IsKey]) e
/-- THE MAP LIES in block m. -/
def SMapAt (W : World) (m : Nat) (l : List (ByteArray × Value)) : Prop := W.heap[m]? = some (.map (sEntL l).toArray l.length)
theorem SMapAt.lt {W : World} {m : Nat} {l : List (ByteArray × Value)} (h : SMapAt W m l) : m < W.heap.size := (Array.getElem?_eq_some_iff.1 h).1
theorem SMapAt.below {W W' : World} {m : Nat} {l : List (ByteArray × Value)} (h : SMapAt W m l) (hb : Below W.heap.size W W') : SMapAt W' m l := (hb.block m h.lt).trans h
/-- What a look-up answers. -/
def sAnsF (r : Option (Nat × Value)) : Value := match r with
  | some x => x.2
  | none => .agg #[.nilFunc, .nilFunc]
theorem sLook_map {W : World} {m : Nat} {l : List (ByteArray × Value)} (h : SMapAt W m l) (s : ByteArray) :
    (Instr.lookup 68 (.map (some m)) (.string s) false).run Tryz.prog W = .ok (sAnsF (sAsk s l.zipIdx 0)) W := by
  have h1 := sFind_s s l W
  have h3 := fun e => sCheck_s W e s
  cases hr : sAsk s l.zipIdx 0 with
  | none =>
    rw [hr] at h1
    simp [Instr.lookup, run_underlying Tryz.underlying68, Go.MapKept.run_getObj_map h, h3, h1, Result.andThen, Tryz.zeroValue50, sAnsF]
  | some x =>
    rw [hr] at h1
    simp [Instr.lookup, run_underlying Tryz.underlying68, Go.MapKept.run_getObj_map h, h3, h1, Result.andThen, sAnsF]
/-- All blocks but m stay. -/
def sKp (m : Nat) (W W' : World) : Prop := W.heap.size ≤ W'.heap.size ∧ ∀ q, q ≠ m → q < W.heap.size → W'.heap[q]? = W.heap[q]?
theorem sKp.trans {m : Nat} {W W' W2 : World} (h : sKp m W W') (h2 : sKp m W' W2) : sKp m W W2 := ⟨Nat.le_trans h.1 h2.1, fun q hq hl => (h2.2 q hq (Nat.lt_of_lt_of_le hl h.1)).trans (h.2 q hq hl)⟩
theorem sKp.alloc (m : Nat) (W : World) (o : Obj) : sKp m W (W.alloc o) := ⟨by rw [World.size_alloc]; exact Nat.le_succ _, fun q _ hl => Below.heap_alloc W o q hl⟩
theorem sIns_map {W : World} {m : Nat} {l : List (ByteArray × Value)} (h : SMapAt W m l) (k : ByteArray) (v : Value) (hn : sAsk k l.zipIdx 0 = none) :
    ∃ W', (Instr.mapUpdate 68 (.map (some m)) (.string k) v).run Tryz.prog W = .ok () W' ∧ SMapAt W' m (l ++ [(k, v)]) ∧ (∀ n, n ≤ m → Below n W W') ∧ sKp m W W' := by
  have h1 := sFind_s k l W
  rw [hn] at h1
  have hlt := h.lt
  have hp : ((sEntL l).toArray).push { key := .string k, val := v, born := l.length } = (sEntL (l ++ [(k, v)])).toArray := by rw [sEntL_snoc]; simp
  refine ⟨{ W with heap := W.heap.setIfInBounds m (.map (sEntL (l ++ [(k, v)])).toArray (l ++ [(k, v)]).length) }, ?_, ?_, fun n hn' => ⟨rfl, rfl, rfl, by simp, fun q hq => ?_⟩, by simp, fun q hq _ => ?_⟩
  · have h4 : (Instr.checkKey false 10000 9 (.string k)).run Tryz.prog W = .ok () W := sCheck_s _ _ _
    simp [Instr.mapUpdate, run_underlying Tryz.underlying68, Go.MapKept.run_getObj_map h, h4, h1, Go.MapKept.run_setObj_map _ h, Result.andThen, hp]
  · show (W.heap.setIfInBounds m _)[m]? = _
    rw [Array.getElem?_setIfInBounds_self_of_lt hlt]
  · show (W.heap.setIfInBounds m _)[q]? = _
    rw [Array.getElem?_setIfInBounds_ne (by omega)]
  · show (W.heap.setIfInBounds m _)[q]? = _
    rw [Array.getElem?_setIfInBounds_ne (fun e => hq e.symm)]
/-- A map that is made, entry by entry. -/
theorem sNew_map (w : World) : SMapAt (w.alloc (.map #[] 0)) w.heap.size [] := World.alloc_heap_new w _
abbrev fnS (f : Nat) : Value := .func (.func f) #[] #[]
/-- A glyph's functions. -/
def fsV : Nat → Value
  | 0 => .agg #[fnS 47, fnS 48]
  | 1 => .agg #[fnS 49, fnS 50]
  | 2 => .agg #[fnS 51, fnS 52]
  | 3 => .agg #[fnS 53, fnS 54]
  | 4 => .agg #[fnS 55, fnS 56]
  | 5 => .agg #[.nilFunc, fnS 57]
  | 6 => .agg #[fnS 58, fnS 59]
  | _ => .agg #[.nilFunc, .nilFunc]
def shL : List (ByteArray × Value) := [(⟨#[226, 141, 180]⟩, .agg #[fnS 47, fnS 48]), (⟨#[226, 141, 179]⟩, .agg #[fnS 49, fnS 50]), (⟨#[44]⟩, .agg #[fnS 51, fnS 52]), (⟨#[226, 140, 189]⟩, .agg #[fnS 53, fnS 54]), (⟨#[226, 134, 145]⟩, .agg #[fnS 55, fnS 56]), (⟨#[226, 134, 147]⟩, .agg #[.nilFunc, fnS 57]), (⟨#[226, 137, 162]⟩, .agg #[fnS 58, fnS 59])]
theorem shL_ask (s : ByteArray) : sAnsF (sAsk s shL.zipIdx 0) = fsV (whichS s) := by
  simp only [shL, List.zipIdx_cons, List.zipIdx_nil, sAsk, whichS, shG]
  repeat' split
  all_goals rfl
set_option maxRecDepth 100000 in
set_option maxHeartbeats 2000000 in
theorem find_c (s : ByteArray) (w : World) : Calls Tryz.prog 31 #[.string s] w fun e w' => e = .returned (fsV (whichS s)) ∧ Below w.heap.size w w' := by
  obtain ⟨w1, hw1⟩ : ∃ w1, w1 = w.alloc (.cells #[.nilFunc, .nilFunc] 50) := ⟨_, rfl⟩
  have r1 : Row w1 w.heap.size 50 #[.nilFunc, .nilFunc] := by rw [hw1]; exact Row.new _ _ _
  have hb1 : Below w.heap.size w w1 := by rw [hw1]; exact (Below.refl _ _).alloc (Nat.le_refl _) _
  have hmm : (Instr.makeMap 68 none).run Tryz.prog w1 = .ok (.map (some w1.heap.size)) (w1.alloc (.map #[] 0)) := run_makeMap _ w1
  have h0 := sNew_map w1
  have b0 : Below w1.heap.size w1 (w1.alloc (.map #[] 0)) := (Below.refl _ w1).alloc (Nat.le_refl _) _
  obtain ⟨B1, r11, h1, c1, -⟩ := sIns_map h0 ⟨#[226, 141, 180]⟩ (.agg #[fnS 47, fnS 48]) rfl
  have b1 := b0.trans (c1 w1.heap.size (Nat.le_refl _))
  obtain ⟨B2, r12, h2, c2, -⟩ := sIns_map h1 ⟨#[226, 141, 179]⟩ (.agg #[fnS 49, fnS 50]) rfl
  have b2 := b1.trans (c2 w1.heap.size (Nat.le_refl _))
  obtain ⟨B3, r13, h3, c3, -⟩ := sIns_map h2 ⟨#[44]⟩ (.agg #[fnS 51, fnS 52]) rfl
  have b3 := b2.trans (c3 w1.heap.size (Nat.le_refl _))
  obtain ⟨B4, r14, h4, c4, -⟩ := sIns_map h3 ⟨#[226, 140, 189]⟩ (.agg #[fnS 53, fnS 54]) rfl
  have b4 := b3.trans (c4 w1.heap.size (Nat.le_refl _))
  obtain ⟨B5, r15, h5, c5, -⟩ := sIns_map h4 ⟨#[226, 134, 145]⟩ (.agg #[fnS 55, fnS 56]) rfl
  have b5 := b4.trans (c5 w1.heap.size (Nat.le_refl _))
  obtain ⟨B6, r16, h6, c6, -⟩ := sIns_map h5 ⟨#[226, 134, 147]⟩ (.agg #[.nilFunc, fnS 57]) rfl
  have b6 := b5.trans (c6 w1.heap.size (Nat.le_refl _))
  obtain ⟨B7, r17, h7, c7, -⟩ := sIns_map h6 ⟨#[226, 137, 162]⟩ (.agg #[fnS 58, fnS 59]) rfl
  have b7 := b6.trans (c7 w1.heap.size (Nat.le_refl _))
  have hl := sLook_map h7 s
  have el : sAsk s (([] ++ [(⟨#[226, 141, 180]⟩, .agg #[fnS 47, fnS 48])] ++ [(⟨#[226, 141, 179]⟩, .agg #[fnS 49, fnS 50])] ++ [(⟨#[44]⟩, .agg #[fnS 51, fnS 52])] ++ [(⟨#[226, 140, 189]⟩, .agg #[fnS 53, fnS 54])] ++ [(⟨#[226, 134, 145]⟩, .agg #[fnS 55, fnS 56])] ++ [(⟨#[226, 134, 147]⟩, .agg #[.nilFunc, fnS 57])] ++ [(⟨#[226, 137, 162]⟩, .agg #[fnS 58, fnS 59])] : List (ByteArray × Value)).zipIdx) 0 = sAsk s shL.zipIdx 0 := rfl
  rw [el, shL_ask] at hl
  have hfm : ∃ p q, fsV (whichS s) = .agg #[p, q] ∧ (p = .nilFunc ∨ ∃ f, p = fnS f) ∧ (q = .nilFunc ∨ ∃ f, q = fnS f) := by
    generalize whichS s = k
    rcases k with _ | _ | _ | _ | _ | _ | _ | k <;> exact ⟨_, _, rfl, by first | exact .inl rfl | exact .inr ⟨_, rfl⟩, by first | exact .inl rfl | exact .inr ⟨_, rfl⟩⟩
  obtain ⟨fp, fq, hpq, hp1, hq1⟩ := hfm
  rw [hpq] at hl ⊢
  have HB := Lib.hid (hb1.trans (b7.mono hb1.size))
  have hr := (r1.below b7 r1.lt)
  have v0 := hr.cell 0
  have v1 := hr.cell 1
  simp at v0 v1
  have f0 := hr.frozen 0
  have f1 := hr.frozen 1
  have HR := Lib.hid hr
  have hs1 : w1.heap.size = w.heap.size + 1 := by rw [hw1]; simp
  rw [hs1] at hmm hl r11 r12 r13 r14 r15 r16 r17
  have HW1 := Lib.hid hw1
  clear hpq el hs1 h0 b0 hw1 r1 hb1 hr h1 b1 h2 b2 h3 b3 h4 b4 h5 b5 h6 b6 h7 b7 c1 c2 c3 c4 c5 c6 c7
  rw [HW1.out] at hmm r11
  rcases hp1 with rfl | ⟨f1, rfl⟩
  · rcases hq1 with rfl | ⟨f2, rfl⟩
    · have hst0 : (store ⟨w.heap.size, 0, none⟩ .nilFunc).run Tryz.prog B7 = .ok () (B7.setCell ⟨w.heap.size, 0, none⟩ .nilFunc) := by
        rw [run_store Tryz.prog B7 _ _ _ rfl, v0]
        simp [f0]
      have r8 := HR.out.set 0 .nilFunc
      have g1 := r8.frozen 1
      have d1 := r8.cell 1
      simp at d1
      have hst1 : (store ⟨w.heap.size, 1, none⟩ .nilFunc).run Tryz.prog (B7.setCell ⟨w.heap.size, 0, none⟩ .nilFunc) = .ok () ((B7.setCell ⟨w.heap.size, 0, none⟩ .nilFunc).setCell ⟨w.heap.size, 1, none⟩ .nilFunc) := by
        rw [run_store Tryz.prog _ _ _ _ rfl, d1]
        simp [g1]
      clear r8 g1 d1
      go_enter Tryz.func31, Tryz.ntmps31
      go_wp2
      have r9 := (HR.out.set 0 .nilFunc).set 1 .nilFunc
      have e0 := r9.cell 0
      have e1 := r9.cell 1
      simp at e0 e1
      refine bodyPost_ret (v := .agg #[.nilFunc, .nilFunc]) (by simp [results, Tryz.f31, go_sem, e0, e1]) rfl ⟨rfl, (HB.out.setCell (p := ⟨w.heap.size, 0, none⟩) (Nat.le_refl _) _).setCell (p := ⟨w.heap.size, 1, none⟩) (Nat.le_refl _) _⟩
    · have hst0 : (store ⟨w.heap.size, 0, none⟩ .nilFunc).run Tryz.prog B7 = .ok () (B7.setCell ⟨w.heap.size, 0, none⟩ .nilFunc) := by
        rw [run_store Tryz.prog B7 _ _ _ rfl, v0]
        simp [f0]
      have r8 := HR.out.set 0 .nilFunc
      have g1 := r8.frozen 1
      have d1 := r8.cell 1
      simp at d1
      have hst1 : (store ⟨w.heap.size, 1, none⟩ (fnS f2)).run Tryz.prog (B7.setCell ⟨w.heap.size, 0, none⟩ .nilFunc) = .ok () ((B7.setCell ⟨w.heap.size, 0, none⟩ .nilFunc).setCell ⟨w.heap.size, 1, none⟩ (fnS f2)) := by
        rw [run_store Tryz.prog _ _ _ _ rfl, d1]
        simp [g1]
      clear r8 g1 d1
      go_enter Tryz.func31, Tryz.ntmps31
      go_wp2
      have r9 := (HR.out.set 0 .nilFunc).set 1 (fnS f2)
      have e0 := r9.cell 0
      have e1 := r9.cell 1
      simp at e0 e1
      refine bodyPost_ret (v := .agg #[.nilFunc, (fnS f2)]) (by simp [results, Tryz.f31, go_sem, e0, e1]) rfl ⟨rfl, (HB.out.setCell (p := ⟨w.heap.size, 0, none⟩) (Nat.le_refl _) _).setCell (p := ⟨w.heap.size, 1, none⟩) (Nat.le_refl _) _⟩
  · rcases hq1 with rfl | ⟨f2, rfl⟩
    · have hst0 : (store ⟨w.heap.size, 0, none⟩ (fnS f1)).run Tryz.prog B7 = .ok () (B7.setCell ⟨w.heap.size, 0, none⟩ (fnS f1)) := by
        rw [run_store Tryz.prog B7 _ _ _ rfl, v0]
        simp [f0]
      have r8 := HR.out.set 0 (fnS f1)
      have g1 := r8.frozen 1
      have d1 := r8.cell 1
      simp at d1
      have hst1 : (store ⟨w.heap.size, 1, none⟩ .nilFunc).run Tryz.prog (B7.setCell ⟨w.heap.size, 0, none⟩ (fnS f1)) = .ok () ((B7.setCell ⟨w.heap.size, 0, none⟩ (fnS f1)).setCell ⟨w.heap.size, 1, none⟩ .nilFunc) := by
        rw [run_store Tryz.prog _ _ _ _ rfl, d1]
        simp [g1]
      clear r8 g1 d1
      go_enter Tryz.func31, Tryz.ntmps31
      go_wp2
      have r9 := (HR.out.set 0 (fnS f1)).set 1 .nilFunc
      have e0 := r9.cell 0
      have e1 := r9.cell 1
      simp at e0 e1
      refine bodyPost_ret (v := .agg #[(fnS f1), .nilFunc]) (by simp [results, Tryz.f31, go_sem, e0, e1]) rfl ⟨rfl, (HB.out.setCell (p := ⟨w.heap.size, 0, none⟩) (Nat.le_refl _) _).setCell (p := ⟨w.heap.size, 1, none⟩) (Nat.le_refl _) _⟩
    · have hst0 : (store ⟨w.heap.size, 0, none⟩ (fnS f1)).run Tryz.prog B7 = .ok () (B7.setCell ⟨w.heap.size, 0, none⟩ (fnS f1)) := by
        rw [run_store Tryz.prog B7 _ _ _ rfl, v0]
        simp [f0]
      have r8 := HR.out.set 0 (fnS f1)
      have g1 := r8.frozen 1
      have d1 := r8.cell 1
      simp at d1
      have hst1 : (store ⟨w.heap.size, 1, none⟩ (fnS f2)).run Tryz.prog (B7.setCell ⟨w.heap.size, 0, none⟩ (fnS f1)) = .ok () ((B7.setCell ⟨w.heap.size, 0, none⟩ (fnS f1)).setCell ⟨w.heap.size, 1, none⟩ (fnS f2)) := by
        rw [run_store Tryz.prog _ _ _ _ rfl, d1]
        simp [g1]
      clear r8 g1 d1
      go_enter Tryz.func31, Tryz.ntmps31
      go_wp2
      have r9 := (HR.out.set 0 (fnS f1)).set 1 (fnS f2)
      have e0 := r9.cell 0
      have e1 := r9.cell 1
      simp at e0 e1
      refine bodyPost_ret (v := .agg #[(fnS f1), (fnS f2)]) (by simp [results, Tryz.f31, go_sem, e0, e1]) rfl ⟨rfl, (HB.out.setCell (p := ⟨w.heap.size, 0, none⟩) (Nat.le_refl _) _).setCell (p := ⟨w.heap.size, 1, none⟩) (Nat.le_refl _) _⟩
end Go.Proofs.YteclpoooggcdoaaGreatDoor.Ar
/- shape's allRight; arrays that lie in one row. -/
namespace Go.Proofs.YteclpoooggcdoaaGreatDoor.Ar
open Go Go.RowKit Go.Shelf
attribute [local go_sem] Oper.semAt_some

theorem srow_one {W : World} {k : Nat} {a : Ary} {s : Value} (r : Row W k 24 #[.bool a.list, .bool a.runes, s]) (hs : KL W s a.n) (hi : InL a.n) : ArysAt W k 0 [a] := by
  obtain ⟨c0, c1, c2, -, -, -⟩ := srow3 r
  refine ⟨r.lt, fun j x hj => ?_⟩
  have hjl : j < 1 := (List.getElem?_eq_some_iff.1 hj).1
  obtain rfl : j = 0 := by omega
  obtain rfl : a = x := by simpa using hj
  exact ⟨s, c0, c1, c2, hs, hi⟩
theorem srow_two {W : World} {k : Nat} {a b : Ary} {s t : Value} (r : Row W k 24 #[.bool a.list, .bool a.runes, s, .bool b.list, .bool b.runes, t]) (hs : KL W s a.n) (ht : KL W t b.n) (hi : InL a.n) (hj : InL b.n) : ArysAt W k 0 [a, b] := by
  obtain ⟨c0, c1, c2, c3, c4, c5⟩ := srow6 r
  refine ⟨r.lt, fun j x hx => ?_⟩
  have hjl : j < 2 := (List.getElem?_eq_some_iff.1 hx).1
  obtain rfl | rfl : j = 0 ∨ j = 1 := by omega
  · obtain rfl : a = x := by simpa using hx
    exact ⟨s, c0, c1, c2, hs, hi⟩
  · obtain rfl : b = x := by simpa using hx
    exact ⟨t, c3, c4, c5, ht, hj⟩
set_option maxRecDepth 100000 in
set_option maxHeartbeats 4000000 in
theorem sall_c (b o c : Nat) (As : List Ary) (w : World) (hA : ArysAt w b o As) (hl : As.length ≤ 1000) : Calls Tryz.prog 46 #[.slice (some ⟨b, o, none⟩) As.length c] w fun e w' => e = .returned (.bool (As.all rightA)) ∧ Below w.heap.size w w' := by
  have HA := Lib.hid hA
  obtain ⟨n, hn⟩ : ∃ n, n = As.length := ⟨_, rfl⟩
  have HLen := Lib.hid hn
  rw [← hn] at hl ⊢
  clear hA hn
  go_enter Tryz.func46, Tryz.ntmps46
  go_wp2
  go_loopw [7] (fun i wr => ∃ k : Nat, k ≤ n ∧ i = .int .i64 (k : Int) ∧ Below w.heap.size w wr ∧ ∀ a ∈ As.take k, rightA a = true) (fun i _ => n - (intOf i).toNat)
  case atStart => exact ⟨0, Nat.zero_le _, rfl, Below.refl _ _, by simp⟩
  case round =>
    obtain ⟨k, hk, rfl, hb, hno⟩ := hrel
    have HNO := Lib.hid hno
    have HB := Lib.hid hb
    clear hno
    by_cases hlt : k < n
    · obtain ⟨a, ha⟩ := sat_of (L := As) (k := k) (by rw [← HLen.out]; exact hlt)
      obtain ⟨s, c0, c1, c2, hs, hi⟩ := (HA.out.below hb).2 k a ha
      have HX := Lib.hid ha
      obtain ⟨rt, hrt⟩ : ∃ rt, rt = rightA a := ⟨_, rfl⟩
      have HRT := Lib.hid hrt
      obtain ⟨L, R, N⟩ := a
      dsimp only at c0 c1
      obtain ⟨sa, sc, hsf, -, -⟩ := hs.form
      obtain ⟨m, hm⟩ : ∃ m, m = (⟨L, R, N⟩ : Ary).n.length := ⟨_, rfl⟩
      rw [← hm] at hsf
      subst hsf
      have hbx := (Below.refl wr.heap.size wr).alloc (Nat.le_refl _) (.cells #[.bool L, .bool R, .slice sa m sc] 24)
      have HB1 := Lib.hid (HB.out.trans (hbx.mono HB.out.size))
      have hc := eright_c ⟨L, R, N⟩ (.slice sa m sc) _ (hs.below hbx) hi
      rw [← hrt] at hc
      have HC := Lib.hid hc
      clear ha hs hi hb hm hrt hc hbx
      cases rt
      · go_wp2_with (go_at_call 25; refine HC.out.mono ?_; rintro e w' ⟨rfl, hb2⟩; have HB2 := Lib.hid (HB1.out.trans (hb2.mono HB1.out.size)); clear hb2)
        go_ret
        refine ⟨?_, HB2.out⟩
        have : As.all rightA = false := by
          rw [List.all_eq_false]
          exact ⟨_, List.mem_of_getElem? HX.out, by rw [← HRT.out]; decide⟩
        rw [this]
        rfl
      · go_wp2_with (go_at_call 25; refine HC.out.mono ?_; rintro e w' ⟨rfl, hb2⟩; have HB2 := Lib.hid (HB1.out.trans (hb2.mono HB1.out.size)); clear hb2)
        go_roundw
        case rel =>
          refine ⟨k + 1, by omega, by go_num, HB2.out, fun y hy => ?_⟩
          rw [List.take_add_one, HX.out, List.mem_append] at hy
          rcases hy with hy | hy
          · exact HNO.out y hy
          · simp at hy
            rw [hy, ← HRT.out]
        case measure => simp [intOf]; omega
    · have hkn : k = n := by omega
      subst hkn
      clear hb
      go_wp2
      go_ret
      refine ⟨?_, HB.out⟩
      have : As.all rightA = true := by
        rw [List.all_eq_true]
        intro x hx
        exact HNO.out x (by rw [HLen.out, List.take_length]; exact hx)
      rw [this]
      rfl
end Go.Proofs.YteclpoooggcdoaaGreatDoor.Ar
/- functions compared with none (by wip/gen/mkshap.py). -/
namespace Go.Proofs.YteclpoooggcdoaaGreatDoor.Ar
open Go Go.RowKit Go.Shelf
attribute [local go_sem] Oper.semAt_some

theorem seq_nil (w : World) : (binOp .eql 48 .nilFunc .nilFunc).run Tryz.prog w = .ok (.bool true) w := by kernel_rfl
theorem seq_fn (f : Nat) (w : World) : (binOp .eql 48 (fnS f) .nilFunc).run Tryz.prog w = .ok (.bool false) w := by kernel_rfl
theorem sne_nil (w : World) : (binOp .neq 48 .nilFunc .nilFunc).run Tryz.prog w = .ok (.bool false) w := by kernel_rfl
theorem sne_fn (f : Nat) (w : World) : (binOp .neq 48 (fnS f) .nilFunc).run Tryz.prog w = .ok (.bool true) w := by kernel_rfl
end Go.Proofs.YteclpoooggcdoaaGreatDoor.Ar
/- slices.Repeat of one number. -/
namespace Go.Proofs.YteclpoooggcdoaaGreatDoor.Ar
open Go Go.RowKit Go.Shelf
attribute [local go_sem] Oper.semAt_some

theorem splI_rep (z : Int) (m r n : Nat) (_h : m + r ≤ n) : splI (List.replicate m z ++ List.replicate (n - m) 0) m (List.replicate r z) = List.replicate (m + r) z ++ List.replicate (n - (m + r)) 0 := by
  unfold splI
  rw [List.take_left' (by simp), List.drop_append, List.drop_eq_nil_of_le (by simp), List.nil_append, List.drop_replicate, List.replicate_append_replicate]
  congr 2
  simp
  omega
theorem kl_head {W : World} {b m n : Nat} {z : Int} (h : Row W b 2 (intV (List.replicate m z ++ List.replicate (n - m) 0))) (hm : m ≤ n) (hn : n ≤ 1000) : KL W (.slice (some ⟨b, 0, none⟩) m n) (List.replicate m z) := by
  refine ⟨⟨some ⟨b, 0, none⟩, n, by simp, by simpa using hm, by unfold maxLen; omega⟩, fun h0 => ⟨b, 0, n, by simp, h.lt, fun j x hx => ?_⟩⟩
  rw [Nat.zero_add, h.cell j]
  have hj : j < (List.replicate m z).length := (List.getElem?_eq_some_iff.1 hx).1
  exact intV_at (by rw [List.getElem?_append_left hj]; exact hx)
set_option maxRecDepth 100000 in
set_option maxHeartbeats 1000000 in
theorem srep_c (z : Int) (c n : Nat) (w : World) (hc : KL w (.slice (some ⟨c, 0, none⟩) 1 1) [z]) (hn : n ≤ 1000) :
    Calls Tryz.prog 93 #[.slice (some ⟨c, 0, none⟩) 1 1, .int .i64 (n : Int)] w fun e W' => ∃ b, e = .returned (.slice (some ⟨b, 0, none⟩) n n) ∧ Row W' b 2 (intV (List.replicate n z)) ∧ w.heap.size ≤ b ∧ Below w.heap.size w W' := by
  have hmix : Tryz.prog.follows .mixedOrders = true := by kernel_rfl
  obtain ⟨i0, hi, hz0, hz1, hz2⟩ := infoI
  have hmul : ∀ W, Calls Tryz.prog 104 #[.int .u64 1, .int .u64 (n : Int)] W fun e w' => e = .returned (.tuple #[.int .u64 0, .int .u64 (n : Int)]) ∧ w' = W := fun W => by
    have h := Tryz.bits_Mul 1 n (by omega) (by omega) W
    have e1 : 1 * n / 18446744073709551616 = 0 := Nat.div_eq_of_lt (by omega)
    have e2 : 1 * n % 18446744073709551616 = n := by rw [Nat.one_mul]; exact Nat.mod_eq_of_lt (by omega)
    rw [e1, e2] at h
    exact h
  have HMUL := Lib.hid hmul
  clear hmul
  go_enter Tryz.func93, Tryz.ntmps93
  go_wp2_with fail
  refine (HMUL.out _).mono ?_
  rintro e w1 ⟨rfl, rfl⟩
  obtain ⟨q, hq⟩ : ∃ q, q = Nat.min 1 n := ⟨_, rfl⟩
  have hqn : q ≤ n ∧ q ≤ 1 ∧ (0 < n → 0 < q) := by
    have h : q = min 1 n := hq
    omega
  have HC := Lib.hid hc
  have HT : Hid ([z].take n = List.replicate q z) := Lib.hid (by
    have h : q = min 1 n := hq
    rcases Nat.eq_zero_or_pos n with h0 | h0
    · subst h0; simp [h]
    · obtain ⟨m, rfl⟩ : ∃ m, n = m + 1 := ⟨n - 1, by omega⟩
      rw [show q = 1 by omega]
      simp)
  have HCP : Hid (∀ W, Below w1.heap.size w1 W → Row W w1.heap.size 2 (intV (List.replicate n 0)) → (Builtin.copy_ #[22, 22] 3 #[.slice (some ⟨w1.heap.size, 0, none⟩) n n, .slice (some ⟨c, 0, none⟩) 1 1]).run Tryz.prog W = .ok (.int .i64 (q : Int)) (W.setRow w1.heap.size (intV (List.replicate q z ++ List.replicate (n - q) 0)))) := Lib.hid (fun W hb hr => by
    have h := run_copy_kl W w1.heap.size 0 n n _ _ _ (hc.below hb) hr (by rw [List.length_replicate, HT.out, List.length_replicate]; omega)
    rw [HT.out, List.length_replicate] at h
    have e := splI_rep z 0 q n (by omega)
    rw [List.replicate_zero, List.nil_append, Nat.sub_zero, Nat.zero_add] at e
    rw [e] at h
    exact h)
  clear hq hc
  go_wp2_with ((at_make; refine wpList_make_full _ rfl (.tmp 29) (.tmp 29) 22 rfl 0 2 i0 (.int .i64 0) 1 Tryz.underlying22 hi hz0 hz1 .i64 .i64 _ _ n rfl rfl rfl rfl (by rw [hz2]; omega) (by unfold maxLen; omega) (Nat.zero_le _) ?_; intro w2 hown2 hg2; have hrow := row_made hown2 rfl; have hb2 := (Below.refl w1.heap.size w1).grown hg2 (Nat.le_refl _) (fun k e => by cases e); have hcp := HCP.out w2 hb2 hrow; have HRW := Lib.hid (row_copied hrow (List.replicate q z ++ List.replicate (n - q) 0)); have HB2 := Lib.hid (below_setRow hb2 (Nat.le_refl w1.heap.size) (intV (List.replicate q z ++ List.replicate (n - q) 0))); obtain ⟨w3, hw3⟩ : ∃ w3, w3 = w2.setRow w1.heap.size (intV (List.replicate q z ++ List.replicate (n - q) 0)) := ⟨_, rfl⟩; rw [← hw3] at hcp HRW HB2; clear hown2 hg2 hrow hb2 hw3))
  go_loopw [8] (fun i wr => ∃ m : Nat, i = .int .i64 m ∧ m ≤ n ∧ (0 < n → 0 < m) ∧ Row wr w1.heap.size 2 (intV (List.replicate m z ++ List.replicate (n - m) 0)) ∧ Below w1.heap.size w1 wr)
    (fun i _ => n - (intOf i).toNat)
  case atStart => exact ⟨q, rfl, hqn.1, hqn.2.2, HRW.out, HB2.out⟩
  case round =>
    obtain ⟨m, rfl, hm, hpos, hrow, hB⟩ := hrel
    have HB := Lib.hid hB
    have hbs := hB.size
    by_cases hlt : m < n
    · obtain ⟨r, hr⟩ : ∃ r, r = Nat.min m (n - m) := ⟨_, rfl⟩
      have hrn : r ≤ m ∧ m + r ≤ n ∧ 0 < r := by
        have h : r = min m (n - m) := hr
        omega
      have hrd : Row wr.drew w1.heap.size 2 (intV (List.replicate m z ++ List.replicate (n - m) 0)) := hrow.drew
      have es1 : (n : Int) - (m : Int) = ((n - m : Nat) : Int) := by omega
      obtain ⟨p, hp⟩ : ∃ p, p = m + r := ⟨_, rfl⟩
      have es2 : (m : Int) + (r : Int) = (p : Int) := by omega
      have hp1 : p ≤ 1000 := by omega
      have hcap : ¬ n = m := by omega
      have ht : (List.replicate m z).take (n - m) = List.replicate r z := by
        rw [List.take_replicate]
        congr 1
        have h : r = min m (n - m) := hr
        omega
      have hcp2 := run_copy_kl wr.drew w1.heap.size m (n - m) (n - m) _ _ _ (kl_head hrd hm hn) hrd (by rw [ht]; simp; omega)
      rw [ht, splI_rep z m r n (by omega), List.length_replicate, ← hp] at hcp2
      change _ = Result.ok (Value.int .i64 (r : Int)) _ at hcp2
      obtain ⟨w3, hw3⟩ : ∃ w3, w3 = wr.drew.setRow w1.heap.size (intV (List.replicate p z ++ List.replicate (n - p) 0)) := ⟨_, rfl⟩
      rw [← hw3] at hcp2
      have HN3 : Hid (Row w3 w1.heap.size 2 (intV (List.replicate p z ++ List.replicate (n - p) 0)) ∧ Below w1.heap.size w1 w3) := Lib.hid (by
        rw [hw3]
        exact ⟨row_copied hrd _, below_setRow HB.out.drew (Nat.le_refl _) _⟩)
      have HPP := Lib.hid hp
      clear hr hw3 hp ht hrd hrow hB
      go_wp2_with fail
      go_region
      go_wp2_with fail
      go_roundw
      case rel => exact ⟨p, rfl, by have := HPP.out; omega, fun _ => by have := HPP.out; omega, HN3.out.1, HN3.out.2⟩
      case measure => have := HPP.out; simp [intOf]; omega
    · obtain rfl : m = n := by omega
      have HO : Hid (Row wr w1.heap.size 2 (intV (List.replicate m z))) := Lib.hid (by
        rw [Nat.sub_self, List.replicate_zero, List.append_nil] at hrow
        exact hrow)
      clear hrow hB
      go_wp2_with fail
      go_ret
      exact ⟨_, rfl, HO.out, Nat.le_refl _, HB.out⟩
end Go.Proofs.YteclpoooggcdoaaGreatDoor.Ar
