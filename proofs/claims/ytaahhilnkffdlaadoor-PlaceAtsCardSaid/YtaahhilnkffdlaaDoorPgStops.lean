/- The places of a line are gone through by a range over a function: the iterator's contract. -/
import Derived.Test.YtaahhilnkffdlaaDoorPgDec
import Derived.Test.YtaahhilnkffdlaaDoorPgRow
import Derived.Test.YtaahhilnkffdlaaDoorPgRng
import Derived.Test.YtaahhilnkffdlaaDoorDet2
import Derived.Test.YtaahhilnkffdlaaDoorPlMath
import Derived.Shelf.Abstract
import Derived.Shelf.AbstractIn
import Derived.Shelf.RegionOpen
import Derived.WalkKit
import Derived.OwnWalkIn
import Derived.TacticsInMore
import Derived.LoopNIn
import Derived.LoopIn
import Derived.Outline
import Derived.Lib.Hide
namespace Go.Proofs.YtaahhilnkffdlaaDoor
open Go Go.RowKit Go.Shelf
attribute [local go_sem] Oper.semAt_some

/-- The library's two tables lie where the program's start lays them. -/
def Tabs (w : World) : Prop := Lib.Utf8Tabs 2 3 w
theorem Tabs.below {n : Nat} {w w' : World} (h : Tabs w) (hb : Below n w w') (h1 : 2 < n) (h2 : 3 < n) : Tabs w' :=
  ⟨fun c hc => (hb.cell (p := ⟨2, c, none⟩) h1).trans (h.1 c hc), fun i hi => ⟨(hb.cell (p := ⟨3, 2 * i, none⟩) h2).trans (h.2 i hi).1, (hb.cell (p := ⟨3, 2 * i + 1, none⟩) h2).trans (h.2 i hi).2⟩⟩

/-- How many bytes a unit takes at once. -/
def stepR (u : Int) (L : List UInt8) : Nat := if u = 1 then 1 else stepOf L
theorem stepU_drop (T : List UInt8) (u : Int) (i : Nat) : stepU T u i = stepR u (T.drop i) := rfl

/-- WHAT A UNIT'S MEASURE IS: two functions, by their numbers. -/
structure Measure (u : Int) (fs fw : Nat) : Prop where
  es : ∀ args w, (callFunc fs args).run Tryd.prog w = .ok (.enter fs args) w
  ew : ∀ args w, (callFunc fw args).run Tryd.prog w = .ok (.enter fw args) w
  step : ∀ (s : ByteArray) (w : World), Tabs w → Calls Tryd.prog fs #[.string s] w fun e w' => e = .returned (.int .i64 (stepR u s.data.toList : Int)) ∧ Below w.heap.size w w'
  width : ∀ (n : Nat) (w : World), (u = 1 → n = 1) → Calls Tryd.prog fw #[.int .i64 (n : Int)] w fun e w' => e = .returned (.int .i64 (sizeOfU n u : Int)) ∧ w = w'

/-- What the iterator yields at a place: the place and its column. -/
def encS (a : Nat) (T : List UInt8) (u : Int) {len : Nat} (x : Ix len) : Array Value := #[.agg #[.int .i64 ((a + posK T u x.1 : Nat) : Int), .int .i64 ((colK T u x.1 : Nat) : Int)]]

/-- The walker, boxed; the line, boxed. -/
def Walker (W : World) (k : Nat) (s : ByteArray) (fs fw : Nat) : Prop := Row W k 54 #[.string s, .func (.func fs) #[] #[], .func (.func fw) #[] #[]]

theorem ext_range (s : ByteArray) (a b i : Nat) : (s.extract (a + i) b).data.toList = (s.extract a b).data.toList.drop i := by
  rw [ByteArray.data_extract, Array.toList_extract, ByteArray.data_extract, Array.toList_extract]
  simp only [List.extract]
  rw [List.drop_take, List.drop_drop]
  congr 1
  omega
theorem ext_len (s : ByteArray) (a b : Nat) (hb : b ≤ s.size) : (s.extract a b).data.toList.length = b - a := by
  rw [← Lib.size_eq, ByteArray.size_extract]; omega

set_option maxRecDepth 100000 in
set_option maxHeartbeats 4000000 in
/-- The iterator's closure. -/
theorem stops1_in (n : Nat) (hn : 1 ≤ n) (l Bw Bl n₀ n₁ fs fw : Nat) (u : Int) (hM : Measure u fs fw) (s : ByteArray) (hs : s.size ≤ 600) (a b : Nat) (hab : a ≤ b) (hbs : b ≤ s.size)
    (T : List UInt8) (hT : T = (s.extract a b).data.toList) (R : Nat) (hR : posK T u R = T.length) (hq : ∀ q, q < R → posK T u q < T.length)
    (J Jx : List (Ix (R + 1)) → World → Prop) (W : World) (hJ : AbB W.heap.size J) (hg1 : 2 < n₀) (hg2 : 3 < n₀) (h01 : n₀ ≤ n₁) (hw1 : n₁ ≤ Bw) (hl1 : n₁ ≤ Bl)
    (hY : ∀ pre x W1, J pre W1 → pre.length < R + 1 → W.heap.size ≤ W1.heap.size → YieldAt Fence.wide (n - 1) Tryd.prog l (encS a T u x) W1 fun e W' =>
      (e = .returned (.bool true) ∧ J (pre ++ [x]) W' ∧ Keeps n₀ n₁ W1 W') ∨ (e = .returned (.bool false) ∧ Jx (pre ++ [x]) W'))
    (hBw : Walker W Bw s fs fw) (hBl : Row W Bl 41 #[.int .i64 (a : Int), .int .i64 (b : Int)]) (hTab : Tabs W) (h0 : J [] W) :
    CallsIn Fence.wide n Tryd.prog 53 #[.func (.yield l) #[] #[], .pointer (some ⟨Bl, 0, none⟩), .pointer (some ⟨Bw, 0, none⟩)] W fun e W' => (∃ v, e = .returned v) ∧
      ((∃ ys : List (Ix (R + 1)), ys.map (·.1) = List.range (R + 1) ∧ J ys W') ∨ (∃ pre : List (Ix (R + 1)), (∃ k, k ≤ R + 1 ∧ pre.map (·.1) = List.range k) ∧ Jx pre W')) := by
  have hTl : T.length = b - a := by rw [hT]; exact ext_len s a b hbs
  have hlw := hBw.lt
  have hll := hBl.lt
  have hmix : Tryd.prog.follows .mixedOrders = true := by kernel_rfl
  have c0 := hBl.cell 0
  have c1 := hBl.cell 1
  simp at c0 c1
  have HR := Lib.hid hR
  have HQ := Lib.hid hq
  have HT := Lib.hid hT
  have HTL := Lib.hid hTl
  have HTAB := Lib.hid hTab
  have HJ0 := Lib.hid (hJ _ _ _ h0 ((Below.refl W.heap.size W).alloc (o := .cells #[.int .i64 (a : Int), .int .i64 0] 58) (Nat.le_refl _)))
  clear hR hq hT hTl hTab
  refine callsIn_of_wp Tryd.func53 rfl trivial ?_ rfl
  simp only [Tryd.ntmps53, List.size_toArray, List.length_cons, List.length_nil, Nat.reduceAdd, Nat.reduceSub, Array.replicate_succ, Array.replicate_zero, List.push_toArray, List.append_toArray, List.nil_append, List.cons_append]
  gi_wp2
  obtain ⟨Bx, hBx⟩ : ∃ Bx, Bx = W.heap.size := ⟨_, rfl⟩
  gi_loopw [5] (fun _ wr => ∃ (k : Nat) (pre : List (Ix (R + 1))), k ≤ R ∧ Row wr W.heap.size 58 #[.int .i64 ((a + posK T u k : Nat) : Int), .int .i64 ((colK T u k : Nat) : Int)] ∧ Walker wr Bw s fs fw ∧ Row wr Bl 41 #[.int .i64 (a : Int), .int .i64 (b : Int)] ∧ pre.map (·.1) = List.range k ∧ J pre wr ∧ Below n₀ W wr ∧ Tabs wr)
    (fun _ wr => b - (intOf ((wr.cell? ⟨W.heap.size, 0, none⟩).getD undef)).toNat)
  case atStart => exact ⟨0, [], Nat.zero_le _, by have := Row.new W 58 #[.int .i64 (a : Int), .int .i64 0]; exact this, Row.alloc hBw _, hBl.alloc _, rfl, HJ0.out, (Below.refl _ W).alloc (by omega) _, HTAB.out.below ((Below.refl n₀ W).alloc (by omega) _) hg1 hg2⟩
  case round =>
    obtain ⟨k, pre, hk, hx, hw, hl, hpre, hJs, hB, hTb⟩ := hrel
    have hpos := posK_le HQ.out hk
    have hcol := colK_le HQ.out hk
    obtain ⟨p, hp⟩ : ∃ p, p = a + posK T u k := ⟨_, rfl⟩
    obtain ⟨c, hc⟩ : ∃ c, c = colK T u k := ⟨_, rfl⟩
    rw [← hp, ← hc] at hx
    obtain ⟨fn, tmps, assign, body, hy, hRd⟩ := hY pre ⟨k, by omega⟩ wr hJs (by rw [(inOrder_of hpre).2]; omega) (Nat.le_of_lt hx.lt)
    dsimp only [encS] at hy
    rw [← hp, ← hc] at hy
    have HP : Hid ((pre ++ [(⟨k, by omega⟩ : Ix (R + 1))]).map (·.1) = List.range (k + 1)) := range_snoc hpre (show k < R + 1 by omega)
    have x0 := hx.cell 0
    have x1 := hx.cell 1
    have l0 := hl.cell 0
    have l1 := hl.cell 1
    simp at x0 x1 l0 l1
    have hpb : p ≤ b := by rw [hp]; have := HTL.out; omega
    have hc6 : c ≤ 1200 := by rw [hc]; have := HTL.out; omega
    have HPP := Lib.hid hp
    have HCC := Lib.hid hc
    have HPRE := Lib.hid hpre
    have HW := Lib.hid hw
    have HX := Lib.hid hx
    have HL := Lib.hid hl
    clear hpre hp hc hpos hcol hw hx hl
    by_cases hlt : k < R
    · have hp2 : p < b := by have h1 := HQ.out k hlt; have h2 := HTL.out; have h3 := HPP.out; omega
      obtain ⟨st, hst⟩ : ∃ st, st = stepU T u (posK T u k) := ⟨_, rfl⟩
      have hsl := stepU_le (unit := u) (HQ.out k hlt)
      rw [← hst] at hsl
      obtain ⟨sz, hsz⟩ : ∃ sz, sz = sizeOfU st u := ⟨_, rfl⟩
      have hsz2 : sz ≤ 2 * st := by rw [hsz]; exact sizeOfU_le hsl.1
      have hpst : p + st ≤ b := by have h2 := HTL.out; have h3 := HPP.out; omega
      have hc12 : c ≤ 2 * (p - a) := by
        have h1 := colK_le HQ.out hk
        have h3 := HPP.out
        rw [← HCC.out] at h1
        omega
      obtain ⟨p2, hp2e⟩ : ∃ p2 : Nat, (p : Int) + (st : Int) = (p2 : Int) := ⟨p + st, by omega⟩
      obtain ⟨c2, hc2e⟩ : ∃ c2 : Nat, (c : Int) + (sz : Int) = (c2 : Int) := ⟨c + sz, by omega⟩
      have HP2 : Hid (p2 = a + posK T u (k + 1)) := Lib.hid (by
        have : posK T u (k + 1) = posK T u k + st := by rw [hst]; rfl
        have h3 := HPP.out
        omega)
      have HC2 : Hid (c2 = colK T u (k + 1)) := Lib.hid (by
        have : colK T u (k + 1) = colK T u k + sz := by rw [hsz, hst]; rfl
        have h3 := HCC.out
        omega)
      have HSt : ∀ V, Tabs V → Hid (Calls Tryd.prog fs #[.string (s.extract p b)] V fun e w' => e = .returned (.int .i64 (st : Int)) ∧ Below V.heap.size V w') := fun V hV => Lib.hid (by
        have h1 := hM.step (s.extract p b) V hV
        rw [show stepR u (s.extract p b).data.toList = st by rw [HPP.out, ext_range, ← HT.out, ← stepU_drop, hst]] at h1
        exact h1)
      have HWd : ∀ V, Hid (Calls Tryd.prog fw #[.int .i64 (st : Int)] V fun e w' => e = .returned (.int .i64 (sz : Int)) ∧ V = w') := fun V => Lib.hid (by
        have h1 := hM.width st V (fun e => by rw [hst]; unfold stepU; rw [if_pos e])
        rw [← hsz] at h1
        exact h1)
      have hp26 : p2 ≤ 600 ∧ c2 ≤ 1200 ∧ st ≤ 600 ∧ sz ≤ 1200 := by omega
      obtain ⟨hp26, hc26, hst6, hsz6⟩ := hp26
      have HMS : Hid (p < p2 ∧ p2 ≤ b) := Lib.hid (by omega)
      have hwc : IntKind.i64.wrap (c2 : Int) = (c2 : Int) := by rw [IntKind.wrap_i64]; omega
      clear hst hsz hsl hsz2 hpst hc12 x0 x1 l0 l1
      have x0 := HX.out.cell 0
      have x1 := HX.out.cell 1
      have l0 := HL.out.cell 0
      have l1 := HL.out.cell 1
      simp at x0 x1 l0 l1
      gi_wp2
      refine hRd.mono ?_
      clear x0 x1 l0 l1 c0 c1
      rintro e W3 (⟨rfl, hJ3, hk3⟩ | ⟨rfl, hJx3⟩)
      · have hx3 := HX.out.keeps hk3 (show n₁ ≤ W.heap.size by omega)
        have hw3 : Walker W3 Bw s fs fw := Row.keeps hk3 hw1 HW.out
        have hl3 := HL.out.keeps hk3 hl1
        have HT3 : Hid (Tabs W3) := Lib.hid (hTb.below hk3.below hg1 hg2)
        have HB3 : Hid (Below n₀ W W3) := Lib.hid (hB.trans hk3.below)
        have x0 := hx3.cell 0
        have x1 := hx3.cell 1
        have l0 := hl3.cell 0
        have l1 := hl3.cell 1
        have w0 := hw3.cell 0
        have w1 := hw3.cell 1
        have w2 := hw3.cell 2
        simp at x0 x1 l0 l1 w0 w1 w2
        have HX3 := Lib.hid hx3
        have HW3 := Lib.hid hw3
        have HL3 := Lib.hid hl3
        clear hx3 hw3 hl3
        have efs := hM.es
        have efw := hM.ew
        gi_wp2
        refine wpIn_region_early hmix (by kernel_rfl) 11 (by decide) (by kernel_rfl) (by kernel_rfl) (by kernel_rfl) (fun i => [Value.pointer (some ⟨Bw, 1, none⟩), .pointer (some ⟨Bw, 1, none⟩), .func (.func fs) #[] #[], .pointer (some ⟨Bw, 0, none⟩), .pointer (some ⟨Bw, 0, none⟩), .string s, .pointer (some ⟨W.heap.size, 0, none⟩), .int .i64 (p : Int), .pointer (some ⟨Bl, 1, none⟩), .int .i64 (b : Int), .string (s.extract p b)].getD i undef)
          { tmps := #[.func (.yield l) #[] #[], .pointer (some ⟨Bl, 0, none⟩), .pointer (some ⟨Bw, 0, none⟩), undef, .pointer (some ⟨W.heap.size, 0, none⟩), u5, .pointer (some ⟨Bl, 0, none⟩), .int .i64 (a : Int), .agg #[.int .i64 (a : Int), .int .i64 0], .pointer (some ⟨W.heap.size, 0, none⟩), .int .i64 (p : Int), .pointer (some ⟨Bl, 1, none⟩), .int .i64 (b : Int), .bool true, .func (.yield l) #[] #[], .agg #[.int .i64 (p : Int), .int .i64 (c : Int)], .bool true, .bool false, .pointer (some ⟨Bw, 1, none⟩), .pointer (some ⟨Bw, 1, none⟩), .func (.func fs) #[] #[], .pointer (some ⟨Bw, 0, none⟩), .pointer (some ⟨Bw, 0, none⟩), .string s, .pointer (some ⟨W.heap.size, 0, none⟩), .int .i64 (p : Int), .pointer (some ⟨Bl, 1, none⟩), .int .i64 (b : Int), .string (s.extract p b), u29, u30, u31, u32, u33, u34, u35, u36, u37, u38, u39, u40, u41, u42, u43, undef, undef, undef], defers := [] } (by kernel_rfl) _ rfl ?hstep ?hend
        case hstep =>
          have k20 : W3.drew.cell? ⟨Bw, 1, none⟩ = some (.func (.func fs) #[] #[]) := w1
          have k23 : W3.drew.cell? ⟨Bw, 0, none⟩ = some (.string s) := w0
          have k25 : W3.drew.cell? ⟨W.heap.size, 0, none⟩ = some (.int .i64 (p : Int)) := x0
          have k27 : W3.drew.cell? ⟨Bl, 1, none⟩ = some (.int .i64 (b : Int)) := l1
          have hsx : (Instr.slice 9 (.string s) (some (.int .i64 (p : Int))) (some (.int .i64 (b : Int))) none).run Tryd.prog W3.drew = .ok (.string (s.extract p b)) W3.drew := by
            rw [run_slice_string _ 9 s .i64 .i64 (p : Int) (b : Int) Tryd.underlying9 (by omega) (by omega) (by omega)]
            simp
          intro i o listed a' him ho hsz hu haf hcl hS
          obtain rfl | rfl | rfl | rfl | rfl | rfl | rfl | rfl | rfl | rfl | rfl : i = 0 ∨ i = 1 ∨ i = 2 ∨ i = 3 ∨ i = 4 ∨ i = 5 ∨ i = 6 ∨ i = 7 ∨ i = 8 ∨ i = 9 ∨ i = 10 := by omega
          · cases ho
            have e2 : a'.tmps[2]? = some (.pointer (some ⟨Bw, 0, none⟩)) := (hS.tmpBase 2 (by kernel_rfl)).trans rfl
            refine ⟨by simp [Oper.about], _, ?_, .inl rfl⟩
            rw [Oper.semAt_plain _ _ _ (by intro c h; cases h)]
            simp [execOp, e2, go_sem]
          · cases ho
            have e18 : a'.tmps[18]? = some (.pointer (some ⟨Bw, 1, none⟩)) := hS.tmpSet 0 _ 18 rfl rfl (by simp) (haf ⟨0, .data⟩ (Array.mem_of_getElem? (i := 0) rfl) rfl)
            refine ⟨by simp [Oper.about], _, ?_, .inl rfl⟩
            rw [Oper.semAt_plain _ _ _ (by intro c h; cases h)]
            simp [execOp, e18, go_sem]
          · cases ho
            have e19 : a'.tmps[19]? = some (.pointer (some ⟨Bw, 1, none⟩)) := hS.tmpSet 1 _ 19 rfl rfl (by simp) (haf ⟨1, .data⟩ (Array.mem_of_getElem? (i := 0) rfl) rfl)
            refine ⟨by simp [Oper.about], _, ?_, .inl rfl⟩
            rw [Oper.semAt_plain _ _ _ (by intro c h; cases h)]
            simp [execOp, e19, k20, go_sem]
          · cases ho
            have e2 : a'.tmps[2]? = some (.pointer (some ⟨Bw, 0, none⟩)) := (hS.tmpBase 2 (by kernel_rfl)).trans rfl
            refine ⟨by simp [Oper.about], _, ?_, .inl rfl⟩
            rw [Oper.semAt_plain _ _ _ (by intro c h; cases h)]
            simp [execOp, e2, go_sem]
          · cases ho
            have e21 : a'.tmps[21]? = some (.pointer (some ⟨Bw, 0, none⟩)) := hS.tmpSet 3 _ 21 rfl rfl (by simp) (haf ⟨3, .data⟩ (Array.mem_of_getElem? (i := 0) rfl) rfl)
            refine ⟨by simp [Oper.about], _, ?_, .inl rfl⟩
            rw [Oper.semAt_plain _ _ _ (by intro c h; cases h)]
            simp [execOp, e21, go_sem]
          · cases ho
            have e22 : a'.tmps[22]? = some (.pointer (some ⟨Bw, 0, none⟩)) := hS.tmpSet 4 _ 22 rfl rfl (by simp) (haf ⟨4, .data⟩ (Array.mem_of_getElem? (i := 0) rfl) rfl)
            refine ⟨by simp [Oper.about], _, ?_, .inl rfl⟩
            rw [Oper.semAt_plain _ _ _ (by intro c h; cases h)]
            simp [execOp, e22, k23, go_sem]
          · cases ho
            have e4 : a'.tmps[4]? = some (.pointer (some ⟨W.heap.size, 0, none⟩)) := (hS.tmpBase 4 (by kernel_rfl)).trans rfl
            refine ⟨by simp [Oper.about], _, ?_, .inl rfl⟩
            rw [Oper.semAt_plain _ _ _ (by intro c h; cases h)]
            simp [execOp, e4, go_sem]
          · cases ho
            have e24 : a'.tmps[24]? = some (.pointer (some ⟨W.heap.size, 0, none⟩)) := hS.tmpSet 6 _ 24 rfl rfl (by simp) (haf ⟨6, .data⟩ (Array.mem_of_getElem? (i := 0) rfl) rfl)
            refine ⟨by simp [Oper.about], _, ?_, .inl rfl⟩
            rw [Oper.semAt_plain _ _ _ (by intro c h; cases h)]
            simp [execOp, e24, k25, go_sem]
          · cases ho
            have e1 : a'.tmps[1]? = some (.pointer (some ⟨Bl, 0, none⟩)) := (hS.tmpBase 1 (by kernel_rfl)).trans rfl
            refine ⟨by simp [Oper.about], _, ?_, .inl rfl⟩
            rw [Oper.semAt_plain _ _ _ (by intro c h; cases h)]
            simp [execOp, e1, go_sem]
          · cases ho
            have e26 : a'.tmps[26]? = some (.pointer (some ⟨Bl, 1, none⟩)) := hS.tmpSet 8 _ 26 rfl rfl (by simp) (haf ⟨8, .data⟩ (Array.mem_of_getElem? (i := 0) rfl) rfl)
            refine ⟨by simp [Oper.about], _, ?_, .inl rfl⟩
            rw [Oper.semAt_plain _ _ _ (by intro c h; cases h)]
            simp [execOp, e26, k27, go_sem]
          · cases ho
            have e23 : a'.tmps[23]? = some (.string s) := hS.tmpSet 5 _ 23 rfl rfl (by simp) (haf ⟨5, .data⟩ (Array.mem_of_getElem? (i := 0) rfl) rfl)
            have e25 : a'.tmps[25]? = some (.int .i64 (p : Int)) := hS.tmpSet 7 _ 25 rfl rfl (by simp) (haf ⟨7, .data⟩ (Array.mem_of_getElem? (i := 1) rfl) rfl)
            have e27 : a'.tmps[27]? = some (.int .i64 (b : Int)) := hS.tmpSet 9 _ 27 rfl rfl (by simp) (haf ⟨9, .data⟩ (Array.mem_of_getElem? (i := 2) rfl) rfl)
            refine ⟨by simp [Oper.about], _, ?_, .inl rfl⟩
            rw [Oper.semAt_plain _ _ _ (by intro c h; cases h)]
            simp [execOp, e23, e25, e27, hsx, go_sem]
        case hend =>
          gi_wp2_with (refine ⟨trivial, ?_⟩; gi_at_fn fs; refine (callsIn_wide.2 (HSt W3.drew HT3.out).out).mono ?_; rintro e W4 ⟨rfl, hb4⟩; have hx4 := Row.below HX3.out.drew hb4 HX3.out.lt; have hw4 : Walker W4 Bw s fs fw := Row.below (Row.drew HW3.out) hb4 (Row.lt HW3.out); have hl4 := Row.below HL3.out.drew hb4 HL3.out.lt; clear x0 x1 l0 l1 w0 w1 w2; have x0 := hx4.cell 0; have x1 := hx4.cell 1; have f0 := hx4.frozen 0; have f1 := hx4.frozen 1; have w2 := hw4.cell 2; simp at x0 x1 w2; have HX4 := Lib.hid hx4; have HW4 := Lib.hid hw4; have HL4 := Lib.hid hl4; have HB4 := Lib.hid hb4; clear hx4 hw4 hl4 hb4)
          gi_region_with_o ((refine ⟨trivial, ?_⟩; gi_at_fn fw; refine (callsIn_wide.2 (HWd _).out).mono ?_; rintro e w' ⟨rfl, rfl⟩))
          all_goals gi_wp2
          all_goals
            have r1 : Row ((W4.setCell ⟨W.heap.size, 0, none⟩ (.int .i64 (p2 : Int))).setCell ⟨W.heap.size, 1, none⟩ (.int .i64 (c2 : Int))) W.heap.size 58 #[.int .i64 (p2 : Int), .int .i64 (c2 : Int)] := (HX4.out.set 0 _).set 1 _
            have e1 := r1.drew.cell 0
            have e2 := HX.out.cell 0
            have E1 := Lib.hid e1
            have E2 := Lib.hid e2
            have R1 := Lib.hid r1
            clear e1 e2 r1
            go_roundw
            case rel =>
              have r1 := R1.out
              rw [HP2.out, HC2.out] at r1
              have hbw : Below W.heap.size W4 (((W4.setCell ⟨W.heap.size, 0, none⟩ (.int .i64 (p2 : Int))).setCell ⟨W.heap.size, 1, none⟩ (.int .i64 (c2 : Int))).drew) := (((Below.refl _ _).setCell (p := ⟨W.heap.size, 0, none⟩) (Nat.le_refl _) _).setCell (p := ⟨W.heap.size, 1, none⟩) (Nat.le_refl _) _).drew
              have hb34 : Below W.heap.size W3 W4 := (Below.refl _ W3).drew.trans (HB4.out.mono (Nat.le_of_lt HX3.out.lt))
              refine ⟨k + 1, pre ++ [⟨k, by omega⟩], hlt, ?_, ?_, ?_, HP.out, hJ _ _ _ (hJ _ _ _ hJ3 hb34) hbw, ?_, ?_⟩
              · rw [HP2.out, HC2.out]; exact r1.drew
              · exact Row.drew (Row.other (Row.other HW4.out (by omega) _) (by omega) _)
              · exact Row.drew (Row.other (Row.other HL4.out (by omega) _) (by omega) _)
              · exact (HB3.out.trans (hb34.mono (by omega))).trans (hbw.mono (by omega))
              · exact (HT3.out.below (hb34.mono (show n₀ ≤ W.heap.size by omega)) hg1 hg2).below (hbw.mono (show n₀ ≤ W.heap.size by omega)) hg1 hg2
            case measure =>
              rw [E1.out, E2.out]
              show b - ((p2 : Int)).toNat < b - ((p : Int)).toNat
              have := HMS.out
              omega
      · gi_wp2
        refine bodyPost_ret (results_none rfl _ _ _) rfl ?_
        exact ⟨⟨_, rfl⟩, .inr ⟨_, ⟨k + 1, by omega, HP.out⟩, hJx3⟩⟩
    · have HE : Hid (k = R) := Lib.hid (by omega)
      have HB : Hid (p = b) := Lib.hid (by have h1 := HE.out; have h2 := HTL.out; have h3 := HPP.out; have h4 := HR.out; rw [h1] at h3; omega)
      have hpb2 : ¬ p < b := by have := HB.out; omega
      gi_wp2
      refine hRd.mono ?_
      rintro e W3 (⟨rfl, hJ3, hk3⟩ | ⟨rfl, hJx3⟩)
      · gi_wp2
        go_end0
        exact ⟨⟨_, rfl⟩, .inl ⟨_, HP.out.trans (by rw [HE.out]), hJ3⟩⟩
      · gi_wp2
        go_end0
        exact ⟨⟨_, rfl⟩, .inr ⟨_, ⟨k + 1, by omega, HP.out⟩, hJx3⟩⟩
end Go.Proofs.YtaahhilnkffdlaaDoor
