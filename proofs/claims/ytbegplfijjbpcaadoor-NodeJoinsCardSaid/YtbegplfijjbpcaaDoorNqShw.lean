/- Merged by gen/nq_merge.py: NqWrite, NqSays, NqNode, NqShow. -/
import Derived.Test.YtbegplfijjbpcaaDoorNoB
import Derived.Test.YtbegplfijjbpcaaDoorNqKd
import Derived.WalkMore
import Derived.OwnWalkIn
import Derived.OwnWalk
/- The program: what is written of a node by itself. -/
namespace Go.Proofs.YtbegplfijjbpcaaDoor.No
open Go Go.RowKit Go.Shelf
attribute [local go_sem] Oper.semAt_some

theorem strCells_bs2 (l : List UInt8) : Lib.strCells (bs l) = Lib.byteCells l := by simp [Lib.strCells, Lib.byteCells, bs]
/-- Does a byte stand as it is? -/
def plainN (n : Nat) : Bool := decide (32 < n) && decide (n ≤ 126) && decide (n ≠ 37) && decide (n ≠ 40) && decide (n ≠ 41) && decide (n ≠ 58)
theorem plainN_bad : ∀ c : UInt8, plainN c.toNat = !badB c := by
  have h : ∀ n : Fin 256, plainN (n : Nat) = !badB (UInt8.ofNat n) := by decide +kernel
  intro c
  have := h ⟨c.toNat, c.toNat_lt⟩
  simpa using this
set_option maxRecDepth 100000 in
/-- plain(c). -/
theorem pplain_c (n : Nat) (hn : n < 256) (w : World) : Calls Tryd.prog 60 #[.int .u8 (n : Int)] w fun e w' => e = .returned (.bool (plainN n)) ∧ w = w' := by
  by_cases h1 : n = 37 ∨ n = 40 ∨ n = 41 ∨ n = 58
  · have hf : plainN n = false := by rcases h1 with rfl | rfl | rfl | rfl <;> rfl
    have HF := Lib.hid hf
    clear hf
    rcases h1 with rfl | rfl | rfl | rfl
    all_goals
      go_enter Tryd.func60, Tryd.ntmps60
      go_wp2
      go_ret
      exact ⟨by rw [HF.out]; rfl, rfl⟩
  · have a1 : ¬ (n : Int) = 37 := by omega
    have a2 : ¬ (n : Int) = 40 := by omega
    have a3 : ¬ (n : Int) = 41 := by omega
    have a4 : ¬ (n : Int) = 58 := by omega
    by_cases h2 : n ≤ 32
    · have hf : plainN n = false := by unfold plainN; simp; omega
      have HF := Lib.hid hf
      have b1 : ¬ (32 : Int) < (n : Int) := by omega
      clear hf h1
      go_enter Tryd.func60, Tryd.ntmps60
      go_wp2
      go_ret
      exact ⟨by rw [HF.out]; rfl, rfl⟩
    · have b1 : (32 : Int) < (n : Int) := by omega
      by_cases h3 : n ≤ 126
      · have hf : plainN n = true := by unfold plainN; simp; omega
        have HF := Lib.hid hf
        have b2 : (n : Int) ≤ 126 := by omega
        clear hf h1
        go_enter Tryd.func60, Tryd.ntmps60
        go_wp2
        go_ret
        exact ⟨by rw [HF.out]; rfl, rfl⟩
      · have hf : plainN n = false := by unfold plainN; simp; omega
        have HF := Lib.hid hf
        have b2 : ¬ (n : Int) ≤ 126 := by omega
        clear hf h1
        go_enter Tryd.func60, Tryd.ntmps60
        go_wp2
        go_ret
        exact ⟨by rw [HF.out]; rfl, rfl⟩
set_option maxRecDepth 100000 in
set_option maxHeartbeats 4000000 in
/-- small(k). -/
theorem small_c (k : Nat) (h1 : k ≤ 14) (w : World) : Calls Tryd.prog 70 #[.int .i64 (k : Int)] w fun e w' => e = .returned (.string (bs (digB (k : Int)))) ∧ w = w' := by
  obtain rfl | rfl | rfl | rfl | rfl | rfl | rfl | rfl | rfl | rfl | rfl | rfl | rfl | rfl | rfl : k = 0 ∨ k = 1 ∨ k = 2 ∨ k = 3 ∨ k = 4 ∨ k = 5 ∨ k = 6 ∨ k = 7 ∨ k = 8 ∨ k = 9 ∨ k = 10 ∨ k = 11 ∨ k = 12 ∨ k = 13 ∨ k = 14 := by omega
  all_goals
    go_enter Tryd.func70, Tryd.ntmps70
    go_wp2
    go_ret
    exact ⟨by rfl, rfl⟩
set_option maxRecDepth 100000 in
set_option maxHeartbeats 4000000 in
/-- strconv.AppendInt(out, k, 10). -/
theorem appint_c (k : Nat) (h1 : k ≤ 14) (w : World) (base : Nat) (v : Value) (O : List UInt8) (ho : w.ownsRow base 5 1 v O.length (Lib.byteCells O)) (hO : O.length ≤ 200000000000) (hb : base ≤ w.heap.size) :
    Calls Tryd.prog 59 #[v, .int .i64 (k : Int), .int .i64 10] w fun e w' => ∃ v', e = .returned v' ∧ w'.ownsRow base 5 1 v' (O ++ digB (k : Int)).length (Lib.byteCells (O ++ digB (k : Int))) ∧ w.grownBy w' v.ownBlock := by
  obtain ⟨i0, hi, hz0, hz1, hz2⟩ := infoU8
  have HO := Lib.hid ho
  have hds : (bs (digB (k : Int))).size ≤ 2 := by rw [bs_size]; exact dig_len _
  have HM : Hid (O.length + (bs (digB (k : Int))).size ≤ maxLen) := Lib.hid (by unfold maxLen; omega)
  have HM2 : Hid (O.length + (bs (digB (k : Int))).size ≤ 140737488355328) := Lib.hid (by omega)
  have HSM := Lib.hid (fun w => small_c k h1 w)
  have HE : Hid (O.length + (bs (digB (k : Int))).size = (O ++ digB (k : Int)).length ∧ Lib.byteCells O ++ Lib.strCells (bs (digB (k : Int))) = Lib.byteCells (O ++ digB (k : Int))) := Lib.hid ⟨by rw [bs_size, List.length_append], by rw [byteCells_app, strCells_bs2]⟩
  obtain ⟨D, hD⟩ : ∃ D, D = bs (digB (k : Int)) := ⟨_, rfl⟩
  rw [← hD] at HM HM2 HSM HE
  clear ho hds hD
  go_enter Tryd.func59, Tryd.ntmps59
  go_wp2_with (first | (go_at_call 70; refine (HSM.out _).mono ?_; rintro e w1 ⟨rfl, rfl⟩) | go_in | (at_builtin; refine Lib.wpList_append_own_string _ rfl (.tmp 13) (.tmp 16) 50 9 rfl base 5 i0 Tryd.underlying50 Tryd.underlying9 hi hz0 hz1 hz2 v _ _ rfl HO.out D rfl HM.out HM2.out hb ?_; intro v' w1 hown' hgrow _; have HOW := Lib.hid hown'; have HG := Lib.hid hgrow; clear hown' hgrow))
  go_ret
  exact ⟨v', rfl, by rw [← HE.out.1, ← HE.out.2]; exact HOW.out, HG.out⟩
end Go.Proofs.YtbegplfijjbpcaaDoor.No
/- The program: a node by itself is written. -/
namespace Go.Proofs.YtbegplfijjbpcaaDoor.No
open Go Go.RowKit Go.Shelf
attribute [local go_sem] Oper.semAt_some
attribute [local go_sem high] run_index_hexq run_index_hexr

theorem wown_ne {w : World} {base : Nat} {e t : TypeId} {v : Value} {n k : Nat} {xs : List Value} {cs : Array Value} (h : w.ownsRow base e 1 v n xs) (hr : Row w k t cs) (hne : t ≠ e) : v.ownBlock ≠ some k := by
  rcases h.2 with ⟨rfl, _⟩ | ⟨g, cap, cur, rfl, _, hg, _⟩
  · intro e; cases e
  · intro e
    have e' : g = k := by simpa [Value.ownBlock] using e
    subst e'
    rw [show w.heap[g]? = _ from hr] at hg
    cases hg
    exact hne rfl
theorem wown_slice {w : World} {base : Nat} {e : TypeId} {v : Value} {n : Nat} {xs : List Value} (h : w.ownsRow base e 1 v n xs) : ∃ a l c, v = .slice a l c := by
  rcases h.2 with ⟨rfl, _⟩ | ⟨g, cap, cur, rfl, _⟩
  · exact ⟨_, _, _, rfl⟩
  · exact ⟨_, _, _, rfl⟩
theorem and15 (n : Nat) (h : n < 256) : bits BinOp.and IntKind.u8 (n : Int) 15 = ((n % 16 : Nat) : Int) := by
  have key : ∀ m : Fin 256, bits BinOp.and IntKind.u8 ((m : Nat) : Int) 15 = (((m : Nat) % 16 : Nat) : Int) := by decide +kernel
  exact key ⟨n, h⟩
/-- All is as it was but the writer's block, and bytes. -/
structure KP (base wb : Nat) (W W' : World) : Prop where
  below : Below base W W'
  rows : ∀ k t cs, Row W k t cs → k ≠ wb → t ≠ 5 → Row W' k t cs
theorem KP.refl (base wb : Nat) (W : World) : KP base wb W W := ⟨Below.refl _ _, fun _ _ _ h _ _ => h⟩
theorem KP.trans {base wb : Nat} {A B C : World} (h : KP base wb A B) (k : KP base wb B C) : KP base wb A C := ⟨h.below.trans k.below, fun i t cs hr h1 h2 => k.rows i t cs (h.rows i t cs hr h1 h2) h1 h2⟩
theorem KP.of_below {base wb : Nat} {A B : World} (h : Below A.heap.size A B) (hb : base ≤ A.heap.size) : KP base wb A B := ⟨h.mono hb, fun _ _ _ hr _ _ => hr.below h hr.lt⟩
/-- THE WRITER in block wb: the nodes SL, the bytes O are written. -/
def WR (base wb : Nat) (W : World) (SL : Value) (O : List UInt8) : Prop := ∃ a l c, Row W wb 52 #[SL, .slice a l c] ∧ W.ownsRow base 5 1 (.slice a l c) O.length (Lib.byteCells O)
theorem WR.below {base wb : Nat} {W W' : World} {SL : Value} {O : List UInt8} (h : WR base wb W SL O) (hb : Below W.heap.size W W') : WR base wb W' SL O := by
  obtain ⟨a, l, c, h1, h2⟩ := h
  exact ⟨a, l, c, h1.below hb h1.lt, own_kept h2 hb⟩
/-- What is written has grown. -/
theorem put1 {base wb : Nat} {W : World} {SL v : Value} {O : List UInt8} {w3 WA : World} {v' : Value} (hr : Row W wb 52 #[SL, v]) (ho : W.ownsRow base 5 1 v O.length (Lib.byteCells O)) (hbb : base ≤ wb) (hbs : base ≤ W.heap.size) (hA : Below W.heap.size W WA) (L : List UInt8)
    (hown : w3.ownsRow base 5 1 v' (O.length + L.length) (Lib.byteCells O ++ Lib.byteCells L)) (hg : WA.grownBy w3 v.ownBlock) :
    ∃ a l c, v' = .slice a l c ∧ w3.cell? ⟨wb, 1, none⟩ = some v ∧ w3.frozen? ⟨wb, 1, none⟩ = false ∧ WR base wb (w3.setCell ⟨wb, 1, none⟩ v') SL (O ++ L) ∧ KP base wb W (w3.setCell ⟨wb, 1, none⟩ v') := by
  obtain ⟨a, l, c, rfl⟩ := wown_slice hown
  have hne := wown_ne ho hr (by decide)
  have hr3 : Row w3 wb 52 #[SL, v] := row_grown (hr.below hA hr.lt) hg hne
  have hb3 : Below base W w3 := (hA.mono hbs).grown hg (Nat.le_trans hbs hA.size) (fun j ej => (ho.lt j ej).1)
  have hw := wown_ne hown hr3 (by decide)
  have c3 := hr3.cell 1
  simp only [List.getElem?_toArray, List.getElem?_cons_zero, List.getElem?_cons_succ] at c3
  refine ⟨a, l, c, rfl, c3, hr3.frozen 1, ⟨a, l, c, hr3.set 1 _, ?_⟩, ?_, fun k t cs hk hkw hkt => ?_⟩
  · rw [List.length_append, byteCells_app]
    exact World.ownsRow.kept hown (grown_set w3 wb 1 _) (.inr (fun e => hw e))
  · exact below_grown hb3 (Nat.le_trans (Nat.le_trans hbs hA.size) hg.size) (grown_set w3 wb 1 _) hbb
  · exact (row_grown (hk.below hA hk.lt) hg (wown_ne ho hk hkt)).other hkw _
def PS1 (base wb : Nat) (W1 : World) (SL v : Value) (O : List UInt8) : Nat → (Nat → Value) → World → Prop
  | 0, _, W => W = W1.drew
  | 1, val, W => ∃ a l c, val 7 = .slice a l c ∧ W.cell? ⟨wb, 1, none⟩ = some v ∧ W.frozen? ⟨wb, 1, none⟩ = false ∧ WR base wb (W.setCell ⟨wb, 1, none⟩ (.slice a l c)) SL O ∧ KP base wb W1 (W.setCell ⟨wb, 1, none⟩ (.slice a l c))
  | _ + 2, _, W => WR base wb W SL O ∧ KP base wb W1 W

def PS9 (base wb : Nat) (W0 WA : World) (sl SL v : Value) (O : List UInt8) : Nat → (Nat → Value) → World → Prop
  | 0, _, W => W = W0.drew
  | 1, val, W => val 11 = sl ∧ W = WA
  | 2, val, W => ∃ a l c, val 12 = .slice a l c ∧ W.cell? ⟨wb, 1, none⟩ = some v ∧ W.frozen? ⟨wb, 1, none⟩ = false ∧ WR base wb (W.setCell ⟨wb, 1, none⟩ (.slice a l c)) SL O ∧ KP base wb W0 (W.setCell ⟨wb, 1, none⟩ (.slice a l c))
  | _ + 3, _, W => WR base wb W SL O ∧ KP base wb W0 W

set_option maxRecDepth 100000 in
set_option maxHeartbeats 16000000 in
/-- says(x). -/
theorem says_c (base wb : Nat) (hbb : base ≤ wb) (W : World) (SL : Value) (O : List UInt8) (kd : Nat) (hkd : kd ≤ 14) (X : List UInt8) (hX : X.length ≤ 10000000) (ka : Option Addr) (kl kc : Nat) (hO : O.length ≤ 100000000000) (h : WR base wb W SL O) (hbs : base ≤ W.heap.size) :
    Calls Tryd.prog 50 #[.pointer (some ⟨wb, 0, none⟩), .agg #[.int .i64 (kd : Int), .string (bs X), .slice ka kl kc]] W fun e W' => (∃ v, e = .returned v) ∧ WR base wb W' SL (O ++ (digB (kd : Int) ++ 58 :: wordB X)) ∧ KP base wb W W' := by
  have hmix : Tryd.prog.follows .mixedOrders = true := by kernel_rfl
  obtain ⟨i0, hi, hz0, hz1, hz2⟩ := infoU8
  obtain ⟨va, vl, vc, hr, ho⟩ := h
  obtain ⟨x, hx⟩ : ∃ x, x = bs X := ⟨_, rfl⟩
  have HXX := Lib.hid hx
  have hxz : x.size = X.length := by rw [hx, bs_size]
  have HXZ := Lib.hid hxz
  have hxs : x.size ≤ 10000000 := by rw [hxz]; exact hX
  rw [← hx]
  obtain ⟨W1, hW1⟩ : ∃ W1, W1 = W.alloc (.cells #[.int .i64 (kd : Int), .string x, .slice ka kl kc] 42) := ⟨_, rfl⟩
  have hb1 : Below W.heap.size W W1 := by rw [hW1]; exact (Below.refl _ W).alloc (Nat.le_refl _) _
  have HRW := Lib.hid (hr.below hb1 hr.lt)
  have HRX : Hid (Row W1 W.heap.size 42 #[.int .i64 (kd : Int), .string x, .slice ka kl kc]) := Lib.hid (by rw [hW1]; exact Row.new _ _ _)
  have HOW := Lib.hid (own_kept ho hb1)
  have HKP : Hid (KP base wb W W1) := Lib.hid (KP.of_below hb1 hbs)
  have HBS : Hid (base ≤ W1.heap.size) := Lib.hid (Nat.le_trans hbs hb1.size)
  have hwl := hr.lt
  have HW1 := Lib.hid hW1
  have HAI := Lib.hid (appint_c kd hkd W1.drew base _ O HOW.out.drew (by omega) HBS.out)
  clear hr ho hx hxz hW1 hb1
  refine (callsIn_wide (n := 5)).1 ?_
  refine callsIn_of_wp Tryd.func50 rfl trivial ?_ rfl
  simp only [Tryd.ntmps50, List.size_toArray, List.length_cons, List.length_nil, Nat.reduceAdd, Nat.reduceSub, Array.replicate_succ, Array.replicate_zero, List.push_toArray, List.append_toArray, List.nil_append, List.cons_append]
  gi_wp2
  rw [← HW1.out]
  refine wpIn_region_chain (by kernel_rfl) (by kernel_rfl) [7, 10] (by kernel_rfl) (by decide) (by decide) (fun j v => v = [(.pointer (some ⟨wb, 0, none⟩) : Value), .pointer (some ⟨wb, 0, none⟩), .pointer (some ⟨wb, 0, none⟩), .pointer (some ⟨wb, 1, none⟩), .slice va vl vc, .pointer (some ⟨W.heap.size, 0, none⟩), .int .i64 (kd : Int), undef, .pointer (some ⟨wb, 0, none⟩), .pointer (some ⟨wb, 1, none⟩), undef].getD j undef) (PS1 base wb W1 SL (.slice va vl vc) (O ++ digB (kd : Int))) ?_ ?_ ?_ ?_ ?_
  · intro val
    rfl
  · intro k val val' WW hval hps
    rcases k with _ | _ | k
    · exact hps
    · obtain ⟨a1, l1, c1, h1, h2⟩ := hps
      exact ⟨a1, l1, c1, (hval 0 7 (by omega) rfl).symm.trans h1, h2⟩
    · exact hps
  · intro i oo listed a' WW val k ho hic haf hS hF hbk hlm hps
    have hii : i < 11 := (Array.getElem?_eq_some_iff.1 ho).1
    obtain rfl | rfl | rfl | rfl | rfl | rfl | rfl | rfl | rfl | rfl | rfl : i = 0 ∨ i = 1 ∨ i = 2 ∨ i = 3 ∨ i = 4 ∨ i = 5 ∨ i = 6 ∨ i = 7 ∨ i = 8 ∨ i = 9 ∨ i = 10 := by omega
    · cases ho
      have q0 : a'.tmps[0]? = some (.pointer (some ⟨wb, 0, none⟩)) := (hS.tmpBase 0 (by kernel_rfl)).trans rfl
      refine ⟨fun _ _ => trivial, _, _, ?_, .inl rfl, rfl⟩
      rw [Oper.semAt_plain _ _ _ (by intro c h; cases h)]
      simp [execOp, q0, go_sem]
    · cases ho
      have q0 : a'.tmps[0]? = some (.pointer (some ⟨wb, 0, none⟩)) := (hS.tmpBase 0 (by kernel_rfl)).trans rfl
      refine ⟨fun _ _ => trivial, _, _, ?_, .inl rfl, rfl⟩
      rw [Oper.semAt_plain _ _ _ (by intro c h; cases h)]
      simp [execOp, q0, go_sem]
    · cases ho
      have l1 : listed.getD 1 false = true := haf ⟨1, .data⟩ (Array.mem_of_getElem? (i := 0) rfl) rfl
      have q7 : a'.tmps[7]? = some (val 1) := hS.tmpSet 1 _ 7 rfl rfl (by simp) l1
      rw [show val 1 = .pointer (some ⟨wb, 0, none⟩) from hF 1 l1 (by decide)] at q7
      refine ⟨fun _ _ => trivial, _, _, ?_, .inl rfl, rfl⟩
      rw [Oper.semAt_plain _ _ _ (by intro c h; cases h)]
      simp [execOp, q7, go_sem]
    · cases ho
      have l2 : listed.getD 2 false = true := haf ⟨2, .data⟩ (Array.mem_of_getElem? (i := 0) rfl) rfl
      have q8 : a'.tmps[8]? = some (val 2) := hS.tmpSet 2 _ 8 rfl rfl (by simp) l2
      rw [show val 2 = .pointer (some ⟨wb, 0, none⟩) from hF 2 l2 (by decide)] at q8
      refine ⟨fun _ _ => trivial, _, _, ?_, .inl rfl, rfl⟩
      rw [Oper.semAt_plain _ _ _ (by intro c h; cases h)]
      simp [execOp, q8, go_sem]
    · cases ho
      have l3 : listed.getD 3 false = true := haf ⟨3, .data⟩ (Array.mem_of_getElem? (i := 0) rfl) rfl
      have q9 : a'.tmps[9]? = some (val 3) := hS.tmpSet 3 _ 9 rfl rfl (by simp) l3
      rw [show val 3 = .pointer (some ⟨wb, 1, none⟩) from hF 3 l3 (by decide)] at q9
      obtain rfl : k = 0 := by have := hbk 0 7 rfl (by decide); omega
      cases (show WW = W1.drew from hps)
      have k1 : W1.drew.cell? ⟨wb, 1, none⟩ = some (.slice va vl vc) := HRW.out.cell 1
      refine ⟨fun _ _ => trivial, _, _, ?_, .inl rfl, rfl⟩
      rw [Oper.semAt_plain _ _ _ (by intro c h; cases h)]
      simp [execOp, q9, k1, go_sem]
    · cases ho
      have q3 : a'.tmps[3]? = some (.pointer (some ⟨W.heap.size, 0, none⟩)) := (hS.tmpBase 3 (by kernel_rfl)).trans rfl
      refine ⟨fun _ _ => trivial, _, _, ?_, .inl rfl, rfl⟩
      rw [Oper.semAt_plain _ _ _ (by intro c h; cases h)]
      simp [execOp, q3, go_sem]
    · cases ho
      have l5 : listed.getD 5 false = true := haf ⟨5, .data⟩ (Array.mem_of_getElem? (i := 0) rfl) rfl
      have q11 : a'.tmps[11]? = some (val 5) := hS.tmpSet 5 _ 11 rfl rfl (by simp) l5
      rw [show val 5 = .pointer (some ⟨W.heap.size, 0, none⟩) from hF 5 l5 (by decide)] at q11
      obtain rfl : k = 0 := by have := hbk 0 7 rfl (by decide); omega
      cases (show WW = W1.drew from hps)
      have k2 : W1.drew.cell? ⟨W.heap.size, 0, none⟩ = some (.int .i64 (kd : Int)) := HRX.out.cell 0
      refine ⟨fun _ _ => trivial, _, _, ?_, .inl rfl, rfl⟩
      rw [Oper.semAt_plain _ _ _ (by intro c h; cases h)]
      simp [execOp, q11, k2, go_sem]
    · exact absurd (by decide) hic
    · cases ho
      have l0 : listed.getD 0 false = true := haf ⟨0, .data⟩ (Array.mem_of_getElem? (i := 0) rfl) rfl
      have q6 : a'.tmps[6]? = some (val 0) := hS.tmpSet 0 _ 6 rfl rfl (by simp) l0
      rw [show val 0 = .pointer (some ⟨wb, 0, none⟩) from hF 0 l0 (by decide)] at q6
      refine ⟨fun _ _ => trivial, _, _, ?_, .inl rfl, rfl⟩
      rw [Oper.semAt_plain _ _ _ (by intro c h; cases h)]
      simp [execOp, q6, go_sem]
    · cases ho
      have l8 : listed.getD 8 false = true := haf ⟨8, .data⟩ (Array.mem_of_getElem? (i := 0) rfl) rfl
      have q14 : a'.tmps[14]? = some (val 8) := hS.tmpSet 8 _ 14 rfl rfl (by simp) l8
      rw [show val 8 = .pointer (some ⟨wb, 0, none⟩) from hF 8 l8 (by decide)] at q14
      refine ⟨fun _ _ => trivial, _, _, ?_, .inl rfl, rfl⟩
      rw [Oper.semAt_plain _ _ _ (by intro c h; cases h)]
      simp [execOp, q14, go_sem]
    · exact absurd (by decide) hic
  · intro m i oo listed a' WW val ho hmi haf hS hF hps
    have hmm : m < 2 := (List.getElem?_eq_some_iff.1 hmi).1
    obtain rfl | rfl : m = 0 ∨ m = 1 := by omega
    · cases hmi
      cases ho
      have l4 : listed.getD 4 false = true := haf ⟨4, .data⟩ (Array.mem_of_getElem? (i := 0) rfl) rfl
      have q10 : a'.tmps[10]? = some (val 4) := hS.tmpSet 4 _ 10 rfl rfl (by simp) l4
      rw [show val 4 = .slice va vl vc from hF 4 l4 (by decide)] at q10
      have l6 : listed.getD 6 false = true := haf ⟨6, .data⟩ (Array.mem_of_getElem? (i := 1) rfl) rfl
      have q12 : a'.tmps[12]? = some (val 6) := hS.tmpSet 6 _ 12 rfl rfl (by simp) l6
      rw [show val 6 = .int .i64 (kd : Int) from hF 6 l6 (by decide)] at q12
      cases (show WW = W1.drew from hps)
      refine op_callv 59 #[.slice va vl vc, .int .i64 (kd : Int), .int .i64 10] (fun _ _ => trivial) ?_ (by omega) ((callsIn_wide.2 HAI.out).mono ?_)
      · rw [Oper.semAt_plain _ _ _ (by intro c h; cases h)]
        simp [execOp, q10, q12, go_sem]
      · rintro e w6 ⟨v', rfl, h1, h2⟩
        obtain ⟨a1, l1, c1, rfl, h3, h4, h5, h6⟩ := put1 (W := W1) (SL := SL) HRW.out HOW.out hbb HBS.out (Below.refl _ W1).drew (digB (kd : Int)) (by rw [← List.length_append, ← byteCells_app]; exact h1) h2
        exact ⟨_, rfl, a1, l1, c1, rfl, h3, h4, h5, h6⟩
    · cases hmi
      cases ho
      have l9 : listed.getD 9 false = true := haf ⟨9, .data⟩ (Array.mem_of_getElem? (i := 0) rfl) rfl
      have q15 : a'.tmps[15]? = some (val 9) := hS.tmpSet 9 _ 15 rfl rfl (by simp) l9
      rw [show val 9 = .pointer (some ⟨wb, 1, none⟩) from hF 9 l9 (by decide)] at q15
      have l7 : listed.getD 7 false = true := haf ⟨7, .data⟩ (Array.mem_of_getElem? (i := 1) rfl) rfl
      have q13 : a'.tmps[13]? = some (val 7) := hS.tmpSet 7 _ 13 rfl rfl (by simp) l7
      obtain ⟨a1, l1, c1, h1, k1, k2, h5, h6⟩ := hps
      rw [h1] at q13
      refine op_skipv (WW.setCell ⟨wb, 1, none⟩ (.slice a1 l1 c1)) (fun _ _ => trivial) ?_ ⟨h5, h6⟩
      rw [Oper.semAt_plain _ _ _ (by intro c h; cases h)]
      simp [execOp, q15, q13, k1, k2, go_sem]
  · intro W2 vl2 hps hF
    obtain ⟨hw2, hk2⟩ := hps
    obtain ⟨b1, b2, b3, hr2, ho2⟩ := hw2
    simp only [finAct, List.getElem?_toArray, List.getElem?_cons_zero, List.getElem?_cons_succ, Act.put, List.setIfInBounds_toArray, List.set_cons_zero, List.set_cons_succ, List.size_toArray, List.length_cons, List.length_nil, Nat.reduceAdd]
    rename_i K hK
    have cv2 := hr2.cell 1
    simp only [List.getElem?_toArray, List.getElem?_cons_zero, List.getElem?_cons_succ] at cv2
    have HR2 := Lib.hid hr2
    have HO2 := Lib.hid ho2
    have HK2 := Lib.hid hk2
    have hbs2 := Nat.le_trans HBS.out hk2.below.size
    have hdl := dig_len (kd : Int)
    have HNW : Hid (∀ (Wx : World) (y : Value), (∀ (j : Nat) (u : Value), [y][j]? = some u → (Wx.alloc (.cells #[y] 5)).cell? ((⟨Wx.heap.size, 0, none⟩ : Addr).add j) = some u)) := Lib.hid (fun Wx y => World.news_of_block (World.alloc_heap_new Wx (.cells #[y] 5)))
    have HON : Hid (∀ z : Int, ∀ u ∈ [Value.int .u8 z], u.oneCell' = true) := Lib.hid (fun z u hu => by simp at hu; subst hu; rfl)
    have HLN : Hid (((O ++ digB (kd : Int)).length + 1 ≤ maxLen) ∧ ((O ++ digB (kd : Int)).length + 1) * 1 ≤ 140737488355328) := Lib.hid (by rw [List.length_append]; exact ⟨by unfold maxLen; omega, by omega⟩)
    have HWN : Hid (W.heap.size ≠ wb) := Lib.hid (by omega)
    refine hK _ _ ?_
    clear hK hr2 ho2 hk2 hF hdl
    gi_wp2_with (gi_at_builtin; go_loud (refine wpListIn_append_own _ rfl (.tmp 20) (.tmp 21) 50 rfl base 5 i0 (.int .u8 0) 1 1 Tryd.underlying50 hi hz0 hz1 hz2 rfl (by decide) (.slice b1 b2 b3) (O ++ digB (kd : Int)).length (Lib.byteCells (O ++ digB (kd : Int))) rfl (HO2.out.alloc _) ⟨W2.heap.size, 0, none⟩ 1 1 [.int .u8 58] rfl rfl (HNW.out _ _) (HON.out _) HLN.out.1 HLN.out.2 (by rw [World.size_alloc]; exact Nat.le_succ_of_le hbs2) ?_; intro v3 w3 ho3 hg3 _; obtain ⟨a3, l3, c3, rfl, k3, f3, hw3, hk3⟩ := put1 HR2.out HO2.out hbb hbs2 ((Below.refl _ W2).alloc (Nat.le_refl _) _) [58] ho3 hg3; have HW3 := Lib.hid hw3; have HK3 := Lib.hid hk3; have x1 := (hk3.rows _ _ _ (HK2.out.rows _ _ _ HRX.out HWN.out (by decide)) HWN.out (by decide)).cell 1; simp only [List.getElem?_toArray, List.getElem?_cons_zero, List.getElem?_cons_succ] at x1; clear ho3 hg3 hw3 hk3 cv2))
    gi_loopw [28] (fun ix wr => ∃ i : Nat, i ≤ x.size ∧ ix = .int .i64 i ∧ WR base wb wr SL (O ++ digB (kd : Int) ++ [58] ++ wordB (X.take i)) ∧ KP base wb W1 wr)
      (fun ix _ => x.size - (intOf ix).toNat)
    case atStart => exact ⟨0, Nat.zero_le _, rfl, by simpa [wordB] using HW3.out, HK2.out.trans HK3.out⟩
    case round =>
      obtain ⟨i, hix, rfl, hwr, hkr⟩ := hrel
      obtain ⟨b4, b5, b6, hr4, ho4⟩ := hwr
      have HR4 := Lib.hid hr4
      have HO4 := Lib.hid ho4
      have HK4 := Lib.hid hkr
      have hbs4 := Nat.le_trans HBS.out hkr.below.size
      have cv4 := hr4.cell 1
      have xr := (hkr.rows _ _ _ HRX.out HWN.out (by decide)).cell 1
      simp only [List.getElem?_toArray, List.getElem?_cons_zero, List.getElem?_cons_succ] at cv4 xr
      clear hr4 ho4 hkr
      by_cases hlt : i < x.size
      · have hat := byte_at x i hlt
        have hxl : x.data.toList = X := by rw [HXX.out, bs_list]
        rw [hxl] at hat
        have HS := Lib.hid (word_snoc hat)
        have HPL := Lib.hid (plainN_bad x[i])
        have HWL : Hid ((O ++ digB (kd : Int) ++ [58] ++ wordB (X.take i)).length + 3 ≤ 100040000000) := Lib.hid (by
          have h1 := word_len (X.take i)
          have h2 := dig_len (kd : Int)
          rw [List.length_take] at h1
          simp only [List.length_append, List.length_singleton]
          omega)
        obtain ⟨OO, hOO⟩ : ∃ OO, OO = O ++ digB (kd : Int) ++ [58] ++ wordB (X.take i) := ⟨_, rfl⟩
        rw [← hOO] at HO4 HWL
        have HOO := Lib.hid hOO
        clear hat hxl hOO
        by_cases hbad : badB x[i] = true
        · have HPN : Hid (plainN x[i].toNat = false) := Lib.hid (by rw [HPL.out, hbad]; rfl)
          gi_wp2_with (refine ⟨trivial, ?_⟩; gi_at_call 60; refine (callsIn_wide.2 (pplain_c _ (UInt8.toNat_lt _) _)).mono ?_; rw [HPN.out]; rintro e w5 ⟨rfl, rfl⟩)
          obtain ⟨qh, hqh⟩ : ∃ q, q = x[i].toNat / 16 := ⟨_, rfl⟩
          obtain ⟨ql, hql⟩ : ∃ q, q = x[i].toNat % 16 := ⟨_, rfl⟩
          have HQH := Lib.hid hqh
          have HQL := Lib.hid hql
          have hc256 : x[i].toNat < 256 := UInt8.toNat_lt _
          have hqh16 : qh < 16 := by omega
          have hql16 : ql < 16 := by omega
          have HES : Hid (O ++ digB (kd : Int) ++ [58] ++ wordB (X.take (i + 1)) = OO ++ [37, hexB qh, hexB ql]) := Lib.hid (by
            rw [HS.out, HOO.out, hqh, hql]
            unfold escB
            rw [if_pos hbad]
            simp)
          clear hbad hqh hql
          have HHI : Hid (∀ WW, (Instr.index 9 (.string ⟨#[48, 49, 50, 51, 52, 53, 54, 55, 56, 57, 97, 98, 99, 100, 101, 102]⟩) (.int .u8 (qh : Int))).run Tryd.prog WW = .ok (.int .u8 ((hexB qh).toNat : Int)) WW) := Lib.hid (fun WW => run_index_hex WW _ _ _ Tryd.underlying9 (by omega))
          have HLO : Hid (∀ WW, (Instr.index 9 (.string ⟨#[48, 49, 50, 51, 52, 53, 54, 55, 56, 57, 97, 98, 99, 100, 101, 102]⟩) (.int .u8 (ql : Int))).run Tryd.prog WW = .ok (.int .u8 ((hexB ql).toNat : Int)) WW) := Lib.hid (fun WW => run_index_hex WW _ _ _ Tryd.underlying9 (by omega))
          have HLN9 : Hid (OO.length + 3 ≤ maxLen ∧ (OO.length + 3) * 1 ≤ 140737488355328) := Lib.hid (by have := HWL.out; exact ⟨by unfold maxLen; omega, by omega⟩)
          refine wpIn_region_chain (by kernel_rfl) (by kernel_rfl) [11, 12, 15] (by kernel_rfl) (by decide) (by decide) (fun j v => v = [(.pointer (some ⟨wb, 0, none⟩) : Value), .pointer (some ⟨wb, 0, none⟩), .pointer (some ⟨wb, 0, none⟩), .pointer (some ⟨wb, 1, none⟩), .slice b4 b5 b6, .int .u8 (x[i].toNat : Int), .int .u8 (qh : Int), .int .u8 ((hexB qh).toNat : Int), .int .u8 (x[i].toNat : Int), .int .u8 (ql : Int), .int .u8 ((hexB ql).toNat : Int), undef, undef, .pointer (some ⟨wb, 0, none⟩), .pointer (some ⟨wb, 1, none⟩), undef].getD j undef) (PS9 base wb wr (wr.drew.alloc (.cells #[.int .u8 37, .int .u8 ((hexB qh).toNat : Int), .int .u8 ((hexB ql).toNat : Int)] 5)) (.slice (some ⟨wr.heap.size, 0, none⟩) 3 3) SL (.slice b4 b5 b6) (OO ++ [37, hexB qh, hexB ql])) ?_ ?_ ?_ ?_ ?_
          · intro val
            rfl
          · intro k val val' WW hval hps
            rcases k with _ | _ | _ | k
            · exact hps
            · exact ⟨(hval 0 11 (by omega) rfl).symm.trans hps.1, hps.2⟩
            · obtain ⟨a1, l1, c1, h1, h2⟩ := hps
              exact ⟨a1, l1, c1, (hval 1 12 (by omega) rfl).symm.trans h1, h2⟩
            · exact hps
          · intro i9 oo listed a' WW val k ho hic haf hS hF hbk hlm hps
            have hii : i9 < 16 := (Array.getElem?_eq_some_iff.1 ho).1
            obtain rfl | rfl | rfl | rfl | rfl | rfl | rfl | rfl | rfl | rfl | rfl | rfl | rfl | rfl | rfl | rfl : i9 = 0 ∨ i9 = 1 ∨ i9 = 2 ∨ i9 = 3 ∨ i9 = 4 ∨ i9 = 5 ∨ i9 = 6 ∨ i9 = 7 ∨ i9 = 8 ∨ i9 = 9 ∨ i9 = 10 ∨ i9 = 11 ∨ i9 = 12 ∨ i9 = 13 ∨ i9 = 14 ∨ i9 = 15 := by omega
            · cases ho
              have q0 : a'.tmps[0]? = some (.pointer (some ⟨wb, 0, none⟩)) := (hS.tmpBase 0 (by kernel_rfl)).trans rfl
              refine ⟨fun _ _ => trivial, _, _, ?_, .inl rfl, rfl⟩
              rw [Oper.semAt_plain _ _ _ (by intro c h; cases h)]
              simp [execOp, q0, go_sem]
            · cases ho
              have q0 : a'.tmps[0]? = some (.pointer (some ⟨wb, 0, none⟩)) := (hS.tmpBase 0 (by kernel_rfl)).trans rfl
              refine ⟨fun _ _ => trivial, _, _, ?_, .inl rfl, rfl⟩
              rw [Oper.semAt_plain _ _ _ (by intro c h; cases h)]
              simp [execOp, q0, go_sem]
            · cases ho
              have l1 : listed.getD 1 false = true := haf ⟨1, .data⟩ (Array.mem_of_getElem? (i := 0) rfl) rfl
              have q48 : a'.tmps[48]? = some (val 1) := hS.tmpSet 1 _ 48 rfl rfl (by simp) l1
              rw [show val 1 = .pointer (some ⟨wb, 0, none⟩) from hF 1 l1 (by decide)] at q48
              refine ⟨fun _ _ => trivial, _, _, ?_, .inl rfl, rfl⟩
              rw [Oper.semAt_plain _ _ _ (by intro c h; cases h)]
              simp [execOp, q48, go_sem]
            · cases ho
              have l2 : listed.getD 2 false = true := haf ⟨2, .data⟩ (Array.mem_of_getElem? (i := 0) rfl) rfl
              have q49 : a'.tmps[49]? = some (val 2) := hS.tmpSet 2 _ 49 rfl rfl (by simp) l2
              rw [show val 2 = .pointer (some ⟨wb, 0, none⟩) from hF 2 l2 (by decide)] at q49
              refine ⟨fun _ _ => trivial, _, _, ?_, .inl rfl, rfl⟩
              rw [Oper.semAt_plain _ _ _ (by intro c h; cases h)]
              simp [execOp, q49, go_sem]
            · cases ho
              have l3 : listed.getD 3 false = true := haf ⟨3, .data⟩ (Array.mem_of_getElem? (i := 0) rfl) rfl
              have q50 : a'.tmps[50]? = some (val 3) := hS.tmpSet 3 _ 50 rfl rfl (by simp) l3
              rw [show val 3 = .pointer (some ⟨wb, 1, none⟩) from hF 3 l3 (by decide)] at q50
              have k1 : WW.cell? ⟨wb, 1, none⟩ = some (.slice b4 b5 b6) := by
                rcases k with _ | _ | k
                · cases (show WW = wr.drew from hps)
                  exact HR4.out.cell 1
                · obtain ⟨_, rfl⟩ := hps
                  exact (HR4.out.drew.alloc _).cell 1
                · exact absurd (hbk 1 12 rfl (by decide)) (by omega)
              refine ⟨fun _ _ => trivial, _, _, ?_, .inl rfl, rfl⟩
              rw [Oper.semAt_plain _ _ _ (by intro c h; cases h)]
              simp [execOp, q50, k1, go_sem]
            · cases ho
              have q5 : a'.tmps[5]? = some (.int .u8 (x[i].toNat : Int)) := (hS.tmpBase 5 (by kernel_rfl)).trans rfl
              refine ⟨fun _ _ => trivial, _, _, ?_, .inl rfl, rfl⟩
              rw [Oper.semAt_plain _ _ _ (by intro c h; cases h)]
              simp [execOp, q5, go_sem]
            · cases ho
              have l5 : listed.getD 5 false = true := haf ⟨5, .data⟩ (Array.mem_of_getElem? (i := 0) rfl) rfl
              have q52 : a'.tmps[52]? = some (val 5) := hS.tmpSet 5 _ 52 rfl rfl (by simp) l5
              rw [show val 5 = .int .u8 (x[i].toNat : Int) from hF 5 l5 (by decide)] at q52
              have hq := HQH.out
              refine ⟨fun _ _ => trivial, _, _, ?_, .inl rfl, rfl⟩
              rw [Oper.semAt_plain _ _ _ (by intro c h; cases h)]
              simp [execOp, q52, hq, go_sem]
            · cases ho
              have l6 : listed.getD 6 false = true := haf ⟨6, .data⟩ (Array.mem_of_getElem? (i := 0) rfl) rfl
              have q53 : a'.tmps[53]? = some (val 6) := hS.tmpSet 6 _ 53 rfl rfl (by simp) l6
              rw [show val 6 = .int .u8 (qh : Int) from hF 6 l6 (by decide)] at q53
              have h7 := HHI.out WW
              refine ⟨fun _ _ => trivial, _, _, ?_, .inl rfl, rfl⟩
              rw [Oper.semAt_plain _ _ _ (by intro c h; cases h)]
              have e1 : a'.eval (.tmp 53) = .int .u8 (qh : Int) := by simp [q53, go_sem]
              have e2 : a'.eval (.const (.string ⟨#[48, 49, 50, 51, 52, 53, 54, 55, 56, 57, 97, 98, 99, 100, 101, 102]⟩)) = .string ⟨#[48, 49, 50, 51, 52, 53, 54, 55, 56, 57, 97, 98, 99, 100, 101, 102]⟩ := rfl
              simp [execOp, e1, e2, h7, Result.andThen]
            · cases ho
              have q5 : a'.tmps[5]? = some (.int .u8 (x[i].toNat : Int)) := (hS.tmpBase 5 (by kernel_rfl)).trans rfl
              refine ⟨fun _ _ => trivial, _, _, ?_, .inl rfl, rfl⟩
              rw [Oper.semAt_plain _ _ _ (by intro c h; cases h)]
              simp [execOp, q5, go_sem]
            · cases ho
              have l8 : listed.getD 8 false = true := haf ⟨8, .data⟩ (Array.mem_of_getElem? (i := 0) rfl) rfl
              have q55 : a'.tmps[55]? = some (val 8) := hS.tmpSet 8 _ 55 rfl rfl (by simp) l8
              rw [show val 8 = .int .u8 (x[i].toNat : Int) from hF 8 l8 (by decide)] at q55
              have hq := HQL.out
              have hb := and15 x[i].toNat hc256
              refine ⟨fun _ _ => trivial, _, _, ?_, .inl rfl, rfl⟩
              rw [Oper.semAt_plain _ _ _ (by intro c h; cases h)]
              simp [execOp, q55, hb, hq, go_sem]
            · cases ho
              have l9 : listed.getD 9 false = true := haf ⟨9, .data⟩ (Array.mem_of_getElem? (i := 0) rfl) rfl
              have q56 : a'.tmps[56]? = some (val 9) := hS.tmpSet 9 _ 56 rfl rfl (by simp) l9
              rw [show val 9 = .int .u8 (ql : Int) from hF 9 l9 (by decide)] at q56
              have h7 := HLO.out WW
              refine ⟨fun _ _ => trivial, _, _, ?_, .inl rfl, rfl⟩
              rw [Oper.semAt_plain _ _ _ (by intro c h; cases h)]
              have e1 : a'.eval (.tmp 56) = .int .u8 (ql : Int) := by simp [q56, go_sem]
              have e2 : a'.eval (.const (.string ⟨#[48, 49, 50, 51, 52, 53, 54, 55, 56, 57, 97, 98, 99, 100, 101, 102]⟩)) = .string ⟨#[48, 49, 50, 51, 52, 53, 54, 55, 56, 57, 97, 98, 99, 100, 101, 102]⟩ := rfl
              simp [execOp, e1, e2, h7, Result.andThen]
            · exact absurd (by decide) hic
            · exact absurd (by decide) hic
            · cases ho
              have l0 : listed.getD 0 false = true := haf ⟨0, .data⟩ (Array.mem_of_getElem? (i := 0) rfl) rfl
              have q47 : a'.tmps[47]? = some (val 0) := hS.tmpSet 0 _ 47 rfl rfl (by simp) l0
              rw [show val 0 = .pointer (some ⟨wb, 0, none⟩) from hF 0 l0 (by decide)] at q47
              refine ⟨fun _ _ => trivial, _, _, ?_, .inl rfl, rfl⟩
              rw [Oper.semAt_plain _ _ _ (by intro c h; cases h)]
              simp [execOp, q47, go_sem]
            · cases ho
              have l13 : listed.getD 13 false = true := haf ⟨13, .data⟩ (Array.mem_of_getElem? (i := 0) rfl) rfl
              have q60 : a'.tmps[60]? = some (val 13) := hS.tmpSet 13 _ 60 rfl rfl (by simp) l13
              rw [show val 13 = .pointer (some ⟨wb, 0, none⟩) from hF 13 l13 (by decide)] at q60
              refine ⟨fun _ _ => trivial, _, _, ?_, .inl rfl, rfl⟩
              rw [Oper.semAt_plain _ _ _ (by intro c h; cases h)]
              simp [execOp, q60, go_sem]
            · exact absurd (by decide) hic
          · intro m i9 oo listed a' WW val ho hmi haf hS hF hps
            have hmm : m < 3 := (List.getElem?_eq_some_iff.1 hmi).1
            obtain rfl | rfl | rfl : m = 0 ∨ m = 1 ∨ m = 2 := by omega
            · cases hmi
              cases ho
              have l7 : listed.getD 7 false = true := haf ⟨7, .data⟩ (Array.mem_of_getElem? (i := 0) rfl) rfl
              have q54 : a'.tmps[54]? = some (val 7) := hS.tmpSet 7 _ 54 rfl rfl (by simp) l7
              rw [show val 7 = .int .u8 ((hexB qh).toNat : Int) from hF 7 l7 (by decide)] at q54
              have l10 : listed.getD 10 false = true := haf ⟨10, .data⟩ (Array.mem_of_getElem? (i := 1) rfl) rfl
              have q57 : a'.tmps[57]? = some (val 10) := hS.tmpSet 10 _ 57 rfl rfl (by simp) l10
              rw [show val 10 = .int .u8 ((hexB ql).toNat : Int) from hF 10 l10 (by decide)] at q57
              cases (show WW = wr.drew from hps)
              refine op_valv (.slice (some ⟨wr.heap.size, 0, none⟩) 3 3) (wr.drew.alloc (.cells #[.int .u8 37, .int .u8 ((hexB qh).toNat : Int), .int .u8 ((hexB ql).toNat : Int)] 5)) (fun _ _ => trivial) ?_ ⟨if_pos rfl, rfl⟩
              rw [Oper.semAt_plain _ _ _ (by intro c h; cases h)]
              simp [execOp, q54, q57, go_sem]
            · cases hmi
              cases ho
              have l4 : listed.getD 4 false = true := haf ⟨4, .data⟩ (Array.mem_of_getElem? (i := 0) rfl) rfl
              have q51 : a'.tmps[51]? = some (val 4) := hS.tmpSet 4 _ 51 rfl rfl (by simp) l4
              rw [show val 4 = .slice b4 b5 b6 from hF 4 l4 (by decide)] at q51
              have l11 : listed.getD 11 false = true := haf ⟨11, .data⟩ (Array.mem_of_getElem? (i := 1) rfl) rfl
              have q58 : a'.tmps[58]? = some (val 11) := hS.tmpSet 11 _ 58 rfl rfl (by simp) l11
              obtain ⟨hv, rfl⟩ := hps
              rw [hv] at q58
              obtain ⟨v', w5, hrun, r1, r2, _⟩ := run_append_own (P := Tryd.prog) (w := wr.drew.alloc (.cells #[.int .u8 37, .int .u8 ((hexB qh).toNat : Int), .int .u8 ((hexB ql).toNat : Int)] 5)) base 50 50 5 i0 (.int .u8 0) 1 1 Tryd.underlying50 hi hz0 hz1 hz2 rfl (by decide) (.slice b4 b5 b6) OO.length (Lib.byteCells OO) (HO4.out.drew.alloc _) ⟨wr.heap.size, 0, none⟩ 3 3 [.int .u8 37, .int .u8 ((hexB qh).toNat : Int), .int .u8 ((hexB ql).toNat : Int)] rfl (World.news_of_block (World.alloc_heap_new wr.drew _)) (by intro u hu; simp at hu; rcases hu with rfl | rfl | rfl <;> rfl) HLN9.out.1 HLN9.out.2 (by rw [World.size_alloc]; exact Nat.le_succ_of_le hbs4)
              obtain ⟨a1, l1, c1, rfl, h3, h4, h5, h6⟩ := put1 HR4.out HO4.out hbb hbs4 ((Below.refl _ wr).drew.alloc (Nat.le_refl _) _) [37, hexB qh, hexB ql] r1 r2
              refine op_valv (.slice a1 l1 c1) w5 (fun _ _ => trivial) ?_ ⟨a1, l1, c1, if_pos rfl, h3, h4, h5, h6⟩
              have e43 : a'.eval (.tmp 51) = .slice b4 b5 b6 := by simp [q51, go_sem]
              have e51 : a'.eval (.tmp 58) = .slice (some ⟨wr.heap.size, 0, none⟩) 3 3 := by simp [q58, go_sem]
              rw [Oper.semAt_plain _ _ _ (by intro c h; cases h)]
              simp [execOp, resolve, invoke, builtin, e43, e51, hrun, Result.andThen]
            · cases hmi
              cases ho
              have l14 : listed.getD 14 false = true := haf ⟨14, .data⟩ (Array.mem_of_getElem? (i := 0) rfl) rfl
              have q61 : a'.tmps[61]? = some (val 14) := hS.tmpSet 14 _ 61 rfl rfl (by simp) l14
              rw [show val 14 = .pointer (some ⟨wb, 1, none⟩) from hF 14 l14 (by decide)] at q61
              have l12 : listed.getD 12 false = true := haf ⟨12, .data⟩ (Array.mem_of_getElem? (i := 1) rfl) rfl
              have q59 : a'.tmps[59]? = some (val 12) := hS.tmpSet 12 _ 59 rfl rfl (by simp) l12
              obtain ⟨a1, l1, c1, h1, k1, k2, h5, h6⟩ := hps
              rw [h1] at q59
              refine op_skipv (WW.setCell ⟨wb, 1, none⟩ (.slice a1 l1 c1)) (fun _ _ => trivial) ?_ ⟨h5, h6⟩
              rw [Oper.semAt_plain _ _ _ (by intro c h; cases h)]
              simp [execOp, q61, q59, k1, k2, go_sem]
          · intro W9 vl9 hps hF
            obtain ⟨hw9, hk9⟩ := hps
            simp only [finAct, List.getElem?_toArray, List.getElem?_cons_zero, List.getElem?_cons_succ, Act.put, List.setIfInBounds_toArray, List.set_cons_zero, List.set_cons_succ, List.size_toArray, List.length_cons, List.length_nil, Nat.reduceAdd]
            have HW9 := Lib.hid hw9
            have HK9 := Lib.hid hk9
            clear hw9 hk9 hF
            gi_wp2
            go_roundw
            case rel => exact ⟨i + 1, by omega, by go_num, by rw [HES.out]; exact HW9.out, HK4.out.trans HK9.out⟩
            case measure => simp [intOf]; omega
        · have HPN : Hid (plainN x[i].toNat = true) := Lib.hid (by rw [HPL.out]; simp [hbad])
          have HLN4 : Hid (OO.length + 1 ≤ maxLen ∧ (OO.length + 1) * 1 ≤ 140737488355328) := Lib.hid (by have := HWL.out; exact ⟨by unfold maxLen; omega, by omega⟩)
          have HES : Hid (O ++ digB (kd : Int) ++ [58] ++ wordB (X.take (i + 1)) = OO ++ [x[i]]) := Lib.hid (by
            rw [HS.out, HOO.out]
            unfold escB
            rw [if_neg hbad]
            simp)
          clear hbad
          gi_wp2_with (first | (refine ⟨trivial, ?_⟩; gi_at_call 60; refine (callsIn_wide.2 (pplain_c _ (UInt8.toNat_lt _) _)).mono ?_; rw [HPN.out]; rintro e w5 ⟨rfl, rfl⟩) | (gi_at_builtin; refine wpListIn_append_own _ rfl (.tmp 41) (.tmp 43) 50 rfl base 5 i0 (.int .u8 0) 1 1 Tryd.underlying50 hi hz0 hz1 hz2 rfl (by decide) (.slice b4 b5 b6) OO.length (Lib.byteCells OO) rfl (HO4.out.alloc _) ⟨wr.heap.size, 0, none⟩ 1 1 [.int .u8 (x[i].toNat : Int)] rfl rfl (HNW.out _ _) (HON.out _) HLN4.out.1 HLN4.out.2 (by rw [World.size_alloc]; exact Nat.le_succ_of_le hbs4) ?_; intro v5 w5 ho5 hg5 _; obtain ⟨a5, l5, c5, rfl, k5, f5, hw5, hk5⟩ := put1 HR4.out HO4.out hbb hbs4 ((Below.refl _ wr).alloc (Nat.le_refl _) _) [x[i]] ho5 hg5; have HW5 := Lib.hid hw5; have HK5 := Lib.hid hk5; clear ho5 hg5 hw5 hk5 cv4))
          go_roundw
          case rel => exact ⟨i + 1, by omega, by go_num, by rw [HES.out]; exact HW5.out, HK4.out.trans HK5.out⟩
          case measure => simp [intOf]; omega
      · obtain rfl : i = x.size := by omega
        have htk : X.take x.size = X := by rw [HXZ.out]; exact List.take_length
        have HTK := Lib.hid htk
        clear htk
        gi_wp2
        go_end0
        refine ⟨⟨_, rfl⟩, ⟨b4, b5, b6, HR4.out, ?_⟩, HKP.out.trans HK4.out⟩
        have := HO4.out
        rw [HTK.out] at this
        simpa using this
end Go.Proofs.YtbegplfijjbpcaaDoor.No
/- The program: a node and what is below it are written. -/
namespace Go.Proofs.YtbegplfijjbpcaaDoor.No
open Go Go.RowKit Go.Shelf
attribute [local go_sem] Oper.semAt_some

set_option maxRecDepth 100000 in
set_option maxHeartbeats 16000000 in
/-- node(at). -/
theorem wnode_c (w0 : World) (wb : Nat) (SL : Value) (T : List Nd) (hT : NL w0 SL T) (hR : RightT T) (ht : ∀ x ∈ T, x.text.length ≤ 10000000) (hbb : w0.heap.size ≤ wb) : ∀ (i : Nat), i < T.length → ∀ (W : World) (O : List UInt8), WR w0.heap.size wb W SL O → Below w0.heap.size w0 W → O.length + lenS T i ≤ 100000000000 →
    Calls Tryd.prog 30 #[.pointer (some ⟨wb, 0, none⟩), .int .i64 (i : Int)] W fun e W' => (∃ v, e = .returned v) ∧ WR w0.heap.size wb W' SL (O ++ val showC [] T i) ∧ KP w0.heap.size wb W W' := by
  obtain ⟨i0, hi0, hz0, hz1, hz2⟩ := infoU8
  obtain ⟨a0, c0, rfl, hc1, hc2⟩ := hT.form
  unfold maxLen at hc2
  intro i
  induction i using Nat.strongRecOn with
  | _ i ih =>
  intro hi W O hw h0 hO
  have HIH := Lib.hid ih
  clear ih
  obtain ⟨x, hx⟩ : ∃ x, T[i]? = some x := ⟨_, List.getElem?_eq_getElem hi⟩
  have hD := show_eq hR.kidsOk hx
  have hkdd := form_kind (hR.node i x hx).1
  have hX := ht x (List.mem_of_getElem? hx)
  have HKI : Hid (∀ a ∈ x.kids, 0 ≤ a ∧ a < (i : Int)) := Lib.hid (hR.kidsOk i x hx)
  obtain ⟨g, o, c1, hv, hg, hcs⟩ := hT.cells (by omega)
  obtain rfl : a0 = some ⟨g, o, none⟩ := by injection hv
  obtain ⟨x0, x1, kx, x2, xk⟩ := hcs i x hx
  have x0 := (h0.cell (p := ⟨g, o + i * 3, none⟩) hg).trans x0
  have x1 := (h0.cell (p := ⟨g, o + i * 3 + 1, none⟩) hg).trans x1
  have x2 := (h0.cell (p := ⟨g, o + i * 3 + 2, none⟩) hg).trans x2
  obtain ⟨kd, hkd2⟩ : ∃ n : Nat, x.kind = (n : Int) := ⟨x.kind.toNat, by omega⟩
  rw [hkd2] at x0
  have hkd : kd ≤ 14 := by omega
  obtain ⟨ka, kc, rfl, hl1, hl2⟩ := xk.form
  unfold maxLen at hl2
  obtain ⟨X, hXX⟩ : ∃ X, X = x.text := ⟨_, rfl⟩
  rw [← hXX] at x1 hX
  have HHD : Hid (digB (kd : Int) ++ 58 :: wordB X = headB x) := Lib.hid (by unfold headB; rw [hkd2, hXX])
  obtain ⟨B, hB⟩ : ∃ B, B = bs X := ⟨_, rfl⟩
  have HBX := Lib.hid hB
  rw [← hB] at x1
  obtain ⟨n, hn⟩ : ∃ n, n = T.length := ⟨_, rfl⟩
  obtain ⟨K, hK⟩ : ∃ n, n = x.kids.length := ⟨_, rfl⟩
  rw [← hn] at hc1 hi HIH ⊢
  rw [← hK] at x2 hl1
  obtain ⟨W1, hW1⟩ : ∃ W1, W1 = W.alloc (.cells #[.int .i64 (kd : Int), .string B, .slice ka K kc] 42) := ⟨_, rfl⟩
  have hb1 : Below W.heap.size W W1 := by rw [hW1]; exact (Below.refl _ W).alloc (Nat.le_refl _) _
  have HRX : Hid (Row W1 W.heap.size 42 #[.int .i64 (kd : Int), .string B, .slice ka K kc]) := Lib.hid (by rw [hW1]; exact Row.new _ _ _)
  obtain ⟨va, vl, vc, hr, ho⟩ := hw
  have hwl := hr.lt
  have cN := hr.cell 0
  simp only [List.getElem?_toArray, List.getElem?_cons_zero] at cN
  rw [← hn] at cN
  have HW1 : Hid (WR w0.heap.size wb W1 (.slice (some ⟨g, o, none⟩) n c0) O) := Lib.hid (by rw [hn]; exact ⟨va, vl, vc, hr.below hb1 hr.lt, own_kept ho hb1⟩)
  have HRO : Hid (Row W1 wb 52 #[.slice (some ⟨g, o, none⟩) n c0, .slice va vl vc] ∧ W1.ownsRow w0.heap.size 5 1 (.slice va vl vc) O.length (Lib.byteCells O)) := Lib.hid (by rw [hn]; exact ⟨hr.below hb1 hr.lt, own_kept ho hb1⟩)
  have HKP : Hid (KP w0.heap.size wb W W1) := Lib.hid (KP.of_below hb1 h0.size)
  have HB1 : Hid (Below w0.heap.size w0 W1) := Lib.hid (h0.trans (hb1.mono h0.size))
  have hbs1 := HB1.out.size
  have HWN : Hid (W.heap.size ≠ wb) := Lib.hid (by omega)
  have HSAY : Hid (∀ (Wx : World) (Ox : List UInt8), Ox.length ≤ 100000000000 → WR w0.heap.size wb Wx (.slice (some ⟨g, o, none⟩) n c0) Ox → w0.heap.size ≤ Wx.heap.size → Calls Tryd.prog 50 #[.pointer (some ⟨wb, 0, none⟩), .agg #[.int .i64 (kd : Int), .string B, .slice ka K kc]] Wx fun e W' => (∃ v, e = .returned v) ∧ WR w0.heap.size wb W' (.slice (some ⟨g, o, none⟩) n c0) (Ox ++ headB x) ∧ KP w0.heap.size wb Wx W') := Lib.hid (fun Wx Ox h1 h2 h3 => by
    have := says_c w0.heap.size wb hbb Wx _ Ox kd hkd X hX ka K kc h1 h2 h3
    rw [HHD.out, ← HBX.out] at this
    exact this)
  have HNW : Hid (∀ (Wx : World) (y : Value), (∀ (j : Nat) (u : Value), [y][j]? = some u → (Wx.alloc (.cells #[y] 5)).cell? ((⟨Wx.heap.size, 0, none⟩ : Addr).add j) = some u)) := Lib.hid (fun Wx y => World.news_of_block (World.alloc_heap_new Wx (.cells #[y] 5)))
  have HON : Hid (∀ z : Int, ∀ u ∈ [Value.int .u8 z], u.oneCell' = true) := Lib.hid (fun z u hu => by simp at hu; subst hu; rfl)
  have HN := Lib.hid hn
  have HK := Lib.hid hK
  have HD := Lib.hid hD
  have HXK := Lib.hid xk
  have hGS := hg
  obtain ⟨z0, z1, z2, -⟩ := node_cells HRX.out
  have cO := HRO.out.1.cell 1
  simp only [List.getElem?_toArray, List.getElem?_cons_zero, List.getElem?_cons_succ] at cO
  have hin : (i : Int) < (n : Int) := by omega
  have hOL : O.length ≤ 100000000000 := by omega
  subst hW1
  clear hB hXX hX hkd
  by_cases hK0 : K = 0
  · subst hK0
    have HVE : Hid (val showC [] T i = headB x) := Lib.hid (by rw [HD.out, if_pos (List.eq_nil_of_length_eq_zero HK.out.symm)])
    clear hr ho hb1 hn hD hK xk hcs hv hx hT hR ht h0
    go_enter Tryd.func30, Tryd.ntmps30
    go_wp2_with (go_at_call 50; refine (HSAY.out _ O hOL HW1.out hbs1).mono ?_; rintro e w5 ⟨⟨ev, rfl⟩, hw5, hk5⟩; have HW5 := Lib.hid hw5; have HK5 := Lib.hid hk5; clear hw5 hk5)
    refine bodyPost_ret (results_none rfl _ _ _) rfl ?_
    refine ⟨⟨_, rfl⟩, ?_, HKP.out.trans HK5.out⟩
    rw [HVE.out]
    exact HW5.out
  · have hk0 : x.kids ≠ [] := fun e => hK0 (by rw [hK, e]; rfl)
    have HVE : Hid (val showC [] T i = [40] ++ accS T x x.kids ++ [41]) := Lib.hid (by rw [HD.out, if_neg hk0])
    have HTL : Hid (x.kids.take K = x.kids) := Lib.hid (by rw [hK]; exact List.take_length)
    have HFU : Hid (∀ j, (accS T x (x.kids.take j)).length ≤ (accS T x x.kids).length) := Lib.hid (acc_full T x)
    have hlen : O.length + 2 + (accS T x x.kids).length ≤ 100000000000 := by
      have : lenS T i = (accS T x x.kids).length + 2 := by
        unfold lenS
        rw [HVE.out]
        simp
      omega
    have hz : ¬ (K : Int) = 0 := by omega
    clear hr ho hb1 hn hD hK xk hcs hv hx hT hR ht h0 hk0
    go_enter Tryd.func30, Tryd.ntmps30
    go_wp2_with (first | (at_builtin; refine wpList_append_own _ rfl (.tmp 26) (.tmp 27) 50 rfl w0.heap.size 5 i0 (.int .u8 0) 1 1 Tryd.underlying50 hi0 hz0 hz1 hz2 rfl (by decide) (.slice va vl vc) (O).length (Lib.byteCells (O)) rfl (HRO.out.2.alloc _) ⟨W.heap.size + 1, 0, none⟩ 1 1 [.int .u8 40] rfl rfl (by have h := HNW.out (W.alloc (.cells #[.int .i64 (kd : Int), .string B, .slice ka K kc] 42)) (.int .u8 40); rw [World.size_alloc] at h; exact h) (HON.out _) (by unfold maxLen; omega) (by omega) (by rw [World.size_alloc]; exact Nat.le_succ_of_le hbs1) ?_; intro v3 w3 ho3 hg3 _; obtain ⟨a3, l3, c3, rfl, k3, f3, hw3, hk3⟩ := put1 HRO.out.1 HRO.out.2 hbb hbs1 ((Below.refl _ (W.alloc (.cells #[.int .i64 (kd : Int), .string B, .slice ka K kc] 42))).alloc (Nat.le_refl _) _) [40] ho3 hg3; have HW3 := Lib.hid hw3; have HK3 := Lib.hid hk3; obtain ⟨z0, z1, z2, -⟩ := node_cells (hk3.rows _ _ _ HRX.out HWN.out (by decide)); clear ho3 hg3 hw3 hk3) | (go_at_call 50; refine (HSAY.out _ (O ++ [40]) (by rw [List.length_append]; simp; omega) HW3.out (Nat.le_trans hbs1 HK3.out.below.size)).mono ?_; rintro e w5 ⟨⟨ev, rfl⟩, hw5, hk5⟩; have HW5 := Lib.hid hw5; have HK5 := Lib.hid (HK3.out.trans hk5); have y2 := (node_cells (HK5.out.rows _ _ _ HRX.out HWN.out (by decide))).2.2.1; clear hw5 hk5))
    go_loopw [37] (fun ix wr => ∃ j : Nat, j ≤ K ∧ ix = .int .i64 j ∧ WR w0.heap.size wb wr (.slice (some ⟨g, o, none⟩) n c0) (O ++ [40] ++ accS T x (x.kids.take j)) ∧ KP w0.heap.size wb (W.alloc (.cells #[.int .i64 (kd : Int), .string B, .slice ka K kc] 42)) wr)
      (fun ix _ => K - (intOf ix).toNat)
    case atStart => exact ⟨0, Nat.zero_le _, rfl, by simpa [accS] using HW5.out, HK5.out⟩
    case round =>
      obtain ⟨j, hj, rfl, hwr, hkr⟩ := hrel
      obtain ⟨b1, b2, b3, hr4, ho4⟩ := hwr
      have HRO4 := Lib.hid (And.intro hr4 ho4)
      have HK4 := Lib.hid hkr
      have hbs4 := Nat.le_trans hbs1 hkr.below.size
      have cv4 := hr4.cell 1
      simp only [List.getElem?_toArray, List.getElem?_cons_zero, List.getElem?_cons_succ] at cv4
      have hbr : Below w0.heap.size w0 wr := HB1.out.trans hkr.below
      have HBR := Lib.hid hbr
      have hfu := HFU.out j
      obtain ⟨OO, hOO⟩ : ∃ OO, OO = O ++ [40] ++ accS T x (x.kids.take j) := ⟨_, rfl⟩
      have hOOl : OO.length = O.length + 1 + (accS T x (x.kids.take j)).length := by rw [hOO, List.length_append, List.length_append]; rfl
      have hOOb : OO.length ≤ 100000000000 := by omega
      rw [← hOO] at HRO4
      have HOO := Lib.hid hOO
      have HOL := Lib.hid hOOl
      clear hr4 ho4 hkr hOO hOOl
      by_cases hjK : j < K
      · obtain ⟨gk, ok, ck, hv, hgk, hck⟩ := HXK.out.cells (by rw [← HK.out]; omega)
        rw [← HK.out] at hv
        obtain rfl : ka = some ⟨gk, ok, none⟩ := by injection hv
        obtain ⟨a, ha⟩ : ∃ a, x.kids[j]? = some a := ⟨_, List.getElem?_eq_getElem (by rw [← HK.out]; exact hjK)⟩
        have hai := HKI.out a (List.mem_of_getElem? ha)
        obtain ⟨m, rfl⟩ : ∃ m : Nat, a = (m : Int) := ⟨a.toNat, by omega⟩
        have e1 := (hbr.cell (p := ⟨gk, ok + j, none⟩) hgk).trans (hck j _ ha)
        have hnx : accS T x (x.kids.take (j + 1)) = accS T x (x.kids.take j) ++ [32] ++ val showC [] T m := by
          rw [List.take_add_one, ha]
          show accS T x (_ ++ [(m : Int)]) = _
          rw [accS_snoc]
          rfl
        have HNX : Hid (O ++ [40] ++ accS T x (x.kids.take (j + 1)) = OO ++ [32] ++ val showC [] T m) := Lib.hid (by rw [hnx, HOO.out]; simp)
        have HCL : Hid ((OO ++ [32]).length + lenS T m ≤ 100000000000) := Lib.hid (by
          have h1 := HFU.out (j + 1)
          rw [hnx, List.length_append, List.length_append] at h1
          have h2 := HOL.out
          unfold lenS
          rw [List.length_append]
          simp at h1 ⊢
          omega)
        have hmi : m < i := by omega
        have hmn : m < n := by omega
        clear hv hgk hck ha hai hnx hbr hfu
        go_wp2_with (first | (at_builtin; refine wpList_append_own _ rfl (.tmp 45) (.tmp 46) 50 rfl w0.heap.size 5 i0 (.int .u8 0) 1 1 Tryd.underlying50 hi0 hz0 hz1 hz2 rfl (by decide) (.slice b1 b2 b3) (OO).length (Lib.byteCells (OO)) rfl (HRO4.out.2.alloc _) ⟨wr.heap.size, 0, none⟩ 1 1 [.int .u8 32] rfl rfl (HNW.out _ _) (HON.out _) (by unfold maxLen; omega) (by omega) (by rw [World.size_alloc]; exact Nat.le_succ_of_le hbs4) ?_; intro v6 w6 ho6 hg6 _; obtain ⟨a6, l6, c6, rfl, k6, f6, hw6, hk6⟩ := put1 HRO4.out.1 HRO4.out.2 hbb hbs4 ((Below.refl _ wr).alloc (Nat.le_refl _) _) [32] ho6 hg6; have HW6 := Lib.hid hw6; have HK6 := Lib.hid hk6; clear ho6 hg6 hw6 hk6) | (go_at_call 30; refine (HIH.out m hmi hmn _ (OO ++ [32]) HW6.out (HBR.out.trans HK6.out.below) HCL.out).mono ?_; rintro e w7 ⟨⟨ev, rfl⟩, hw7, hk7⟩; have HW7 := Lib.hid hw7; have HK7 := Lib.hid (HK4.out.trans (HK6.out.trans hk7)); clear hw7 hk7))
        go_roundw
        case rel => exact ⟨j + 1, by omega, by go_num, by rw [HNX.out]; exact HW7.out, HK7.out⟩
        case measure => simp [intOf]; omega
      · obtain rfl : j = K := by omega
        have HFI : Hid (OO ++ [41] = O ++ val showC [] T i) := Lib.hid (by
          rw [HOO.out, HVE.out, HTL.out]
          simp)
        clear hbr hfu
        go_wp2_with (at_builtin; refine wpList_append_own _ rfl (.tmp 58) (.tmp 59) 50 rfl w0.heap.size 5 i0 (.int .u8 0) 1 1 Tryd.underlying50 hi0 hz0 hz1 hz2 rfl (by decide) (.slice b1 b2 b3) (OO).length (Lib.byteCells (OO)) rfl (HRO4.out.2.alloc _) ⟨wr.heap.size, 0, none⟩ 1 1 [.int .u8 41] rfl rfl (HNW.out _ _) (HON.out _) (by unfold maxLen; omega) (by omega) (by rw [World.size_alloc]; exact Nat.le_succ_of_le hbs4) ?_; intro v7 w7 ho7 hg7 _; obtain ⟨a7, l7, c7, rfl, k7, f7, hw7, hk7⟩ := put1 HRO4.out.1 HRO4.out.2 hbb hbs4 ((Below.refl _ wr).alloc (Nat.le_refl _) _) [41] ho7 hg7; have HW7 := Lib.hid hw7; have HK7 := Lib.hid hk7; clear ho7 hg7 hw7 hk7)
        go_end0
        refine ⟨⟨_, rfl⟩, ?_, HKP.out.trans (HK4.out.trans HK7.out)⟩
        rw [← HFI.out]
        exact HW7.out
end Go.Proofs.YtbegplfijjbpcaaDoor.No
/- The program: Show. -/
namespace Go.Proofs.YtbegplfijjbpcaaDoor.No
open Go Go.RowKit Go.Shelf
attribute [local go_sem] Oper.semAt_some

set_option maxRecDepth 100000 in
set_option maxHeartbeats 8000000 in
/-- Show(t). -/
theorem pshow_c (w : World) (v : Value) (T : List Nd) (hT : NL w v T) (hk : ∀ x ∈ T, x.kids.length ≤ 1000000) (ht : ∀ x ∈ T, x.text.length ≤ 10000000) :
    Calls Tryd.prog 13 #[v] w fun e W' => e = .returned (.string (bs (showA T))) ∧ Below w.heap.size w W' := by
  obtain ⟨a0, c0, rfl, hc1, hc2⟩ := hT.form
  unfold maxLen at hc2
  obtain ⟨n, hn⟩ : ∃ n, n = T.length := ⟨_, rfl⟩
  have hT0 := Lib.hid hT
  rw [← hn] at hc1 hT ⊢
  obtain ⟨W1, hW1⟩ : ∃ W, W = w.alloc (.cells #[.slice a0 n c0, .slice none 0 0] 52) := ⟨_, rfl⟩
  have hb1 : Below w.heap.size w W1 := by rw [hW1]; exact (Below.refl _ w).alloc (Nat.le_refl _) _
  have r1 : Row W1 w.heap.size 52 #[.slice a0 n c0, .slice none 0 0] := by rw [hW1]; exact Row.new _ _ _
  have HC := Lib.hid (check_c W1 (.slice a0 n c0) T (hT.below hb1) hk)
  have HN := Lib.hid hn
  have HB1 := Lib.hid hb1
  have HR1 := Lib.hid r1
  have HTX := Lib.hid ht
  clear hn hb1 r1 hk hT ht
  subst hW1
  go_enter Tryd.func13, Tryd.ntmps13
  go_wp2_with fail
  refine HC.out.mono ?_
  rintro e w2 ⟨hb2, ⟨hr, rfl⟩ | ⟨hr, a, s, rfl⟩⟩
  · have hR := (right_iff T).1 hr
    have hp := hR.pos
    rw [← HN.out] at hp
    have hr2 := HR1.out.below hb2 HR1.out.lt
    have HR2 := Lib.hid hr2
    have HB2 := Lib.hid (HB1.out.trans (hb2.mono HB1.out.size))
    have HSA : Hid (showA T = val showC [] T (n - 1)) := Lib.hid (by unfold showA; rw [hr, if_pos rfl, HN.out])
    have hx4 := hR.max
    rw [← HN.out] at hx4
    have c0' := hr2.cell 0
    simp only [List.getElem?_toArray, List.getElem?_cons_zero] at c0'
    have HND : Hid (∀ W, Below w.heap.size w W → Row W w.heap.size 52 #[.slice a0 n c0, .slice none 0 0] → Calls Tryd.prog 30 #[.pointer (some ⟨w.heap.size, 0, none⟩), .int .i64 ((n : Int) - 1)] W fun e W' => (∃ v, e = .returned v) ∧ WR w.heap.size w.heap.size W' (.slice a0 n c0) (showA T) ∧ KP w.heap.size w.heap.size W W') := Lib.hid (fun W hW hrW => by
      have h1 := wnode_c w w.heap.size (.slice a0 n c0) T (by rw [HN.out]; exact hT0.out) hR HTX.out (Nat.le_refl _) (n - 1) (by rw [← HN.out]; omega) W [] ⟨none, 0, 0, hrW, World.ownsRow_nil _ _ _ _⟩ hW (by
        have := show_len hR HTX.out (i := n - 1) (by rw [← HN.out]; omega)
        simpa using this)
      rw [show ((n - 1 : Nat) : Int) = (n : Int) - 1 by omega, List.nil_append, ← HSA.out] at h1
      exact h1)
    clear hb2 hr2 hr hR
    go_wp2_with (first | (go_at_call 31; refine (root_c _ _ _ _ (by omega)).mono ?_; rintro e w3 ⟨rfl, rfl⟩) | (go_at_call 30; refine (HND.out _ (HB2.out.alloc HB2.out.size _) (HR2.out.alloc _)).mono ?_; rintro e w4 ⟨⟨ev, rfl⟩, hw4, hk4⟩; obtain ⟨b1, b2, b3, hr4, ho4⟩ := hw4; have c4 := hr4.cell 1; have hcv := own_conv ho4; have HB4 := Lib.hid ((HB2.out.alloc HB2.out.size _).trans hk4.below); simp only [List.getElem?_toArray, List.getElem?_cons_zero, List.getElem?_cons_succ] at c4; clear hr4 ho4 hk4))
    go_ret
    exact ⟨rfl, HB4.out⟩
  · have HSA : Hid (showA T = []) := Lib.hid (by unfold showA; rw [hr]; rfl)
    have HB2 := Lib.hid (HB1.out.trans (hb2.mono HB1.out.size))
    clear hb2 hr
    unfold wrongV
    go_wp2
    go_ret
    exact ⟨by rw [HSA.out]; rfl, HB2.out⟩
end Go.Proofs.YtbegplfijjbpcaaDoor.No
