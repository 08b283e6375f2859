/- Merged by gen/nq_merge.py: NqCp, NqFew, NqSome, NqOwnL. -/
import Derived.Test.YtbegplfijjbpcaaDoorNqA
import Derived.Test.YtbegplfijjbpcaaDoorNoC
import Derived.Test.YtbegplfijjbpcaaDoorNqTake
import Derived.Test.YtbegplfijjbpcaaDoorNqLeaves
/- The law's side: nodes are copied one by one; what a box holds while one is made; numbers are appended. -/
namespace Go.Proofs.YtbegplfijjbpcaaDoor.No
open Go Go.RowKit Go.Shelf
attribute [local go_sem] Oper.semAt_some

theorem KL.take {W : World} {a : Option Addr} {n c : Nat} {A : List Int} (h : KL W (.slice a n c) A) (m : Nat) (hm : m ≤ n) : KL W (.slice a m c) (A.take m) := by
  obtain ⟨a0, c0, e, h1, h2⟩ := h.form
  cases e
  have hl : (A.take m).length = m := by rw [List.length_take]; omega
  refine ⟨⟨_, _, by rw [hl], by rw [hl]; omega, h2⟩, fun h0 => ?_⟩
  rw [hl] at h0
  obtain ⟨g, o, c1, e, hg, hc⟩ := h.cells (by omega)
  cases e
  refine ⟨g, o, _, by rw [hl], hg, fun j x hj => hc j x ?_⟩
  have hjm : j < m := by have := (List.getElem?_eq_some_iff.1 hj).1; omega
  rw [List.getElem?_take, if_pos hjm] at hj
  exact hj
theorem nums_one (L : List Int) : ∀ u ∈ nums L, u.oneCell' = true := fun u hu => by
  obtain ⟨x, _, rfl⟩ := List.mem_map.1 hu
  rfl
theorem nums_app (L M : List Int) : nums (L ++ M) = nums L ++ nums M := by simp [nums]
/-- Some numbers are appended to those that are owned. -/
theorem run_append_kl {W : World} {base : Nat} {ty : TypeId} {v u : Value} {L A : List Int} (hv : IOwn W base v L) (hu : KL W u A) (hl : L.length + A.length ≤ 100000000) (hb : base ≤ W.heap.size) :
    ∃ v' W', (Builtin.append_ #[40, 40] ty #[v, u]).run Tryd.prog W = .ok v' W' ∧ IOwn W' base v' (L ++ A) ∧ W.grownBy W' v.ownBlock := by
  obtain ⟨i0, hi, hz0, hz1, hz2⟩ := infoI
  obtain ⟨a0, c0, rfl, h1, h2⟩ := hu.form
  have key : ∀ (ad : Addr), (∀ (j : Nat) (z : Value), (nums A)[j]? = some z → W.cell? (ad.add j) = some z) → ∃ v' W', (Builtin.append_ #[40, 40] ty #[v, .slice (some ad) A.length c0]).run Tryd.prog W = .ok v' W' ∧ IOwn W' base v' (L ++ A) ∧ W.grownBy W' v.ownBlock := fun ad hc => by
    obtain ⟨v', W', hr, ho, hg, _⟩ := run_append_own (P := Tryd.prog) W base 40 ty 3 i0 (.int .i64 0) 1 8 Tryd.underlying40 hi hz0 hz1 hz2 rfl (by decide) v L.length (nums L) hv ad A.length c0 (nums A) (by rw [nums_len]; omega) hc (nums_one A) (by unfold maxLen; omega) (by omega) hb
    refine ⟨v', W', hr, ?_, hg⟩
    show World.ownsRow _ _ _ _ _ _ _
    rw [List.length_append, nums_app]
    exact ho
  rcases Nat.eq_zero_or_pos A.length with h0 | h0
  · obtain rfl : A = [] := List.length_eq_zero_iff.1 h0
    cases a0 with
    | some ad => exact key ad (fun j z h => by simp [nums] at h)
    | none =>
      refine ⟨v, W, ?_, by rw [List.append_nil]; exact hv, grown_refl _ _⟩
      have hv' := hv
      change World.ownsRow _ _ _ _ _ _ _ at hv'
      rcases hv'.2 with ⟨rfl, hz⟩ | ⟨g, cap, cur, rfl, _, _, hnc, _⟩
      · simp [Builtin.append_, run_underlying Tryd.underlying40, sizeOf, typeInfo, hi, Builtin.lenOf, Builtin.firstCells]
      · simp [Builtin.append_, run_underlying Tryd.underlying40, sizeOf, typeInfo, hi, Builtin.lenOf, Builtin.firstCells, hnc, storeCells]
  · obtain ⟨g, o, c1, e, hg, hc⟩ := hu.cells h0
    injection e with e _ _
    subst e
    refine key _ (fun j z hz => ?_)
    obtain ⟨x, hx⟩ : ∃ x, A[j]? = some x := ⟨_, List.getElem?_eq_getElem (by have := (List.getElem?_eq_some_iff.1 hz).1; rw [nums_len] at this; exact this)⟩
    have e1 : (⟨g, o, none⟩ : Addr).add j = ⟨g, o + j, none⟩ := by simp [Addr.add]
    rw [e1, hc j x hx, ← hz, nums_at hx]
theorem own_off {W : World} {b k : Nat} {e t : TypeId} {s n : Nat} {v : Value} {xs : List Value} {cs : Array Value} (h : W.ownsRow b e s v n xs) (hr : Row W k t cs) (hne : t ≠ e) : v.ownBlock ≠ some k := by
  rcases h.2 with ⟨rfl, _⟩ | ⟨g, cap, cur, rfl, _, hg, _⟩
  · intro e; cases e
  · intro e
    have e' : g = k := by simpa [Value.ownBlock] using e
    subst e'
    rw [show W.heap[g]? = _ from hr] at hg
    cases hg
    exact hne rfl
/-- A box is made: how far it is when so many of two steps are over. -/
def PM' (B ia : Nat) (c1 : Array Value) : Nat → (Nat → Value) → World → Prop
  | 0, _, _ => True
  | 1, v, W => ∃ h, v ia = .pointer (some ⟨h, 0, none⟩) ∧ Row W h 42 #[.int .i64 0, .string ⟨#[]⟩, .slice none 0 0] ∧ B ≤ h
  | _, v, W => ∃ h, v ia = .pointer (some ⟨h, 0, none⟩) ∧ Row W h 42 c1 ∧ B ≤ h
def PM (B : Nat) (w0 : World) (ia : Nat) (c1 : Array Value) (k : Nat) (v : Nat → Value) (W : World) : Prop := Below B w0 W ∧ PM' B ia c1 k v W
/-- Numbers are appended to a box's: how far it is when so many of two steps are over. -/
def PA' (B h ia : Nat) (kd : Int) (V : ByteArray) (q0 : Value) (L : List Int) : Nat → (Nat → Value) → World → Prop
  | 0, _, W => Row W h 42 #[.int .i64 kd, .string V, q0]
  | 1, v, W => Row W h 42 #[.int .i64 kd, .string V, q0] ∧ IOwn W B (v ia) L
  | _, _, W => ∃ q, Row W h 42 #[.int .i64 kd, .string V, q] ∧ IOwn W B q L
def PA (B : Nat) (w0 : World) (h ia : Nat) (kd : Int) (V : ByteArray) (q0 : Value) (L : List Int) (k : Nat) (v : Nat → Value) (W : World) : Prop := Below B w0 W ∧ PA' B h ia kd V q0 L k v W
theorem below_grown2 {W W' : World} {B : Nat} {w0 : World} (hb : Below B w0 W) (hB : B ≤ W.heap.size) {r : Option Nat} (hg : W.grownBy W' r) (hl : ∀ g, r = some g → B ≤ g) : Below B w0 W' := by
  refine ⟨hg.os.trans hb.os, hg.tape.trans hb.tape, hg.output.trans hb.output, Nat.le_trans hb.size hg.size, fun k hk => (hg.block k (by omega) (fun e => ?_)).trans (hb.block k hk)⟩
  have := hl k e.symm
  omega
end Go.Proofs.YtbegplfijjbpcaaDoor.No
/- The law's side: the first sixty nodes, each cut. Written by gen/mkfew.py. -/
namespace Go.Proofs.YtbegplfijjbpcaaDoor.No
open Go Go.RowKit Go.Shelf
attribute [local go_sem] Oper.semAt_some

/-- A node, cut. -/
def cutN (x : Nd) : Nd := ⟨x.kind, x.text.take 50, x.kids.take 60⟩
/-- The first sixty, cut. -/
def fewN (T : List Nd) : List Nd := (T.take 60).map cutN
theorem fewN_len (T : List Nd) : (fewN T).length ≤ 60 := by simp [fewN]; omega
theorem fewN_small (T : List Nd) : ∀ x ∈ fewN T, x.kids.length ≤ 60 ∧ x.text.length ≤ 50 := by
  intro x hx
  obtain ⟨y, _, rfl⟩ := List.mem_map.1 hx
  exact ⟨List.length_take_le _ _, List.length_take_le _ _⟩

set_option maxRecDepth 100000 in
set_option maxHeartbeats 16000000 in
theorem few_c (w : World) (v : Value) (T : List Nd) (hT : NL w v T) (ht : ∀ x ∈ T, x.text.length ≤ maxLen) :
    Calls Tryd.prog 10 #[v] w fun e W' => Below w.heap.size w W' ∧ ∃ u L, e = .returned u ∧ NOwn W' w.heap.size u L ∧ L.map (·.1) = fewN T := by
  obtain ⟨i2, hj, hy0, hy1, hy2⟩ := infoN
  obtain ⟨a0, c0, rfl, hc1, hc2⟩ := hT.form
  unfold maxLen at hc2
  have HCT := Lib.hid hT.cells
  have HTX := Lib.hid ht
  obtain ⟨n, hn⟩ : ∃ n, n = T.length := ⟨_, rfl⟩
  rw [← hn] at hc1 HCT ⊢
  have HN := Lib.hid hn
  have HD := Lib.hid (Below.refl w.heap.size w)
  clear hT hn
  refine (callsIn_wide (n := 5)).1 ?_
  refine callsIn_of_wp Tryd.func10 rfl trivial ?_ rfl
  simp only [Tryd.ntmps10, List.size_toArray, List.length_cons, List.length_nil, Nat.reduceAdd, Nat.reduceSub, Array.replicate_succ, Array.replicate_zero, List.push_toArray, List.append_toArray, List.nil_append, List.cons_append]
  gi_wp2
  gi_loopw [3, 4] (fun u i wr => ∃ (k : Nat) (L : List (Nd × Value)), k ≤ n ∧ k ≤ 60 ∧ i = .int .i64 k ∧ NOwn wr w.heap.size u L ∧ L.map (·.1) = (T.take k).map cutN ∧ Below w.heap.size w wr) (fun _ i _ => n - (intOf i).toNat)
  case atStart => exact ⟨0, [], Nat.zero_le _, Nat.zero_le _, rfl, NOwn.nil _ _, rfl, HD.out⟩
  case round =>
    obtain ⟨k, L, hk, hk60, rfl, hO, hL, hB⟩ := hrel
    obtain ⟨wo, rfl⟩ : ∃ W, W = wr := ⟨_, rfl⟩
    have HO := Lib.hid hO
    have HL := Lib.hid hL
    have HB := Lib.hid hB
    have hbs := hB.size
    clear hO hL
    by_cases hlt : k < n ∧ k < 60
    · obtain ⟨g, o, c1, hv, hg, hcs⟩ := HCT.out (by omega)
      obtain rfl : a0 = some ⟨g, o, none⟩ := by injection hv
      obtain rfl : c0 = c1 := by injection hv
      obtain ⟨x, hx⟩ : ∃ x, T[k]? = some x := ⟨_, List.getElem?_eq_getElem (by rw [← HN.out]; omega)⟩
      have HX := Lib.hid hx
      obtain ⟨y0, y1, kx, y2, xk0⟩ := hcs k x hx
      obtain ⟨ka, kc, rfl, hl1, hl2⟩ := xk0.form
      unfold maxLen at hl2
      have HKL0 := Lib.hid xk0
      obtain ⟨K, hK⟩ : ∃ K, K = x.kids.length := ⟨_, rfl⟩
      obtain ⟨kd, hkd⟩ : ∃ n, n = x.kind := ⟨_, rfl⟩
      obtain ⟨U, hU⟩ : ∃ n, n = bs x.text := ⟨_, rfl⟩
      rw [← hK] at y2 hl1 HKL0
      rw [← hkd] at y0
      rw [← hU] at y1
      have HK := Lib.hid hK
      obtain ⟨V, hV⟩ : ∃ n, n = bs (x.text.take 50) := ⟨_, rfl⟩
      have HCU : Hid (∀ W, Calls Tryd.prog 21 #[.string U] W fun e W' => e = .returned (.string V) ∧ W' = W) := Lib.hid (fun W => by
        have h := cut_c U (by rw [hU, bs_size]; exact HTX.out x (List.mem_of_getElem? hx)) W
        have e : cut5 U = x.text.take 50 := by rw [hU]; unfold cut5; rw [bs_list]
        rw [e, ← hV] at h
        exact h)
      have HNOD : Hid (∀ q, nodC (cutN x, q) = [.int .i64 kd, .string V, q]) := Lib.hid (fun q => by rw [hkd, hV]; rfl)
      obtain ⟨m, hm⟩ : ∃ m, m = min K 60 := ⟨_, rfl⟩
      have hmin : min (K : Int) 60 = (m : Int) := by omega
      have hmK : m ≤ K := by omega
      have hmc : ¬ ((kc : Int) < (m : Int)) := by omega
      have HKT : Hid (∀ W, Below w.heap.size w W → KL W (.slice ka m kc) (x.kids.take 60)) := Lib.hid (fun W hW => by
        have h := (HKL0.out.below hW).take m hmK
        have e : x.kids.take m = x.kids.take 60 := by rw [List.take_eq_take_iff, ← HK.out]; omega
        rw [e] at h
        exact h)
      have HKL : Hid ((x.kids.take 60).length ≤ 60) := Lib.hid (List.length_take_le _ _)
      have HQL : Hid ((x.kids.take 60).length = m) := Lib.hid (by rw [List.length_take, ← hK]; omega)
      clear hm hV
      have HCX : Hid (∀ W, Below w.heap.size w W → W.cell? ⟨g, o + k * 3, none⟩ = some (.int .i64 kd) ∧ W.cell? ⟨g, o + k * 3 + 1, none⟩ = some (.string U) ∧ W.cell? ⟨g, o + k * 3 + 2, none⟩ = some (.slice ka K kc)) := Lib.hid (fun W hW =>
        ⟨(hW.cell (p := ⟨g, o + k * 3, none⟩) hg).trans y0, (hW.cell (p := ⟨g, o + k * 3 + 1, none⟩) hg).trans y1, (hW.cell (p := ⟨g, o + k * 3 + 2, none⟩) hg).trans y2⟩)
      have HWW : Hid (∀ W, Below wo.heap.size wo W → Below w.heap.size w W) := Lib.hid (fun W hW => hB.trans (hW.mono hbs))
      have hkn : (k : Int) < (n : Int) := by omega
      clear hv hcs hx y0 y1 y2 xk0 hK hkd hU hB
      gi_wp2
      refine wpIn_region_chainC (by kernel_rfl) (by kernel_rfl) [12, 13] (by kernel_rfl) (by decide) (by decide) (fun j v => v = [(.slice (some ⟨g, o, none⟩) n c0 : Value), .int .i64 (k : Int), .pointer (some ⟨g, o + k * 3, none⟩), .pointer (some ⟨g, o + k * 3, none⟩), .int .i64 kd, .slice (some ⟨g, o, none⟩) n c0, .int .i64 (k : Int), .pointer (some ⟨g, o + k * 3, none⟩), .pointer (some ⟨g, o + k * 3 + 1, none⟩), .string U, .string V, .agg #[.int .i64 kd, .string V, .slice none 0 0], undef, undef].getD j undef) (PM wo.heap.size wo 12 #[.int .i64 kd, .string V, .slice none 0 0]) ?_ ?_ ?_ ?_ ?_
      · intro val
        exact ⟨(Below.refl _ _).drew, trivial⟩
      · intro ph val val' W hval hps
        refine ⟨hps.1, ?_⟩
        rcases ph with _ | _ | ph
        · trivial
        · obtain ⟨h, h1, h2⟩ := hps.2
          exact ⟨h, (hval 0 12 (by omega) rfl).symm.trans h1, h2⟩
        · obtain ⟨h, h1, h2⟩ := hps.2
          exact ⟨h, (hval 0 12 (by omega) rfl).symm.trans h1, h2⟩
      · intro i oo listed a' W val ph ho hic haf hS hF hbk hlm hps
        have hii : i < 14 := (Array.getElem?_eq_some_iff.1 ho).1
        obtain rfl | rfl | rfl | rfl | rfl | rfl | rfl | rfl | rfl | rfl | rfl | rfl | rfl | rfl : i = 0 ∨ i = 1 ∨ i = 2 ∨ i = 3 ∨ i = 4 ∨ i = 5 ∨ i = 6 ∨ i = 7 ∨ i = 8 ∨ i = 9 ∨ i = 10 ∨ i = 11 ∨ i = 12 ∨ i = 13 := by omega
        · cases ho
          have q0 : a'.tmps[0]? = some (.slice (some ⟨g, o, none⟩) n c0) := (hS.tmpBase 0 (by kernel_rfl)).trans rfl
          refine op_valv (.slice (some ⟨g, o, none⟩) n c0) W (fun _ _ => trivial) ?_ ⟨rfl, rfl⟩
          rw [Oper.semAt_plain _ _ _ (by intro c h; cases h)]
          simp [execOp, q0, go_sem]
        · cases ho
          have q4 : a'.tmps[4]? = some (.int .i64 (k : Int)) := (hS.tmpBase 4 (by kernel_rfl)).trans rfl
          refine op_valv (.int .i64 (k : Int)) W (fun _ _ => trivial) ?_ ⟨rfl, rfl⟩
          rw [Oper.semAt_plain _ _ _ (by intro c h; cases h)]
          simp [execOp, q4, go_sem]
        · cases ho
          have l0 : listed.getD 0 false = true := haf ⟨0, .data⟩ (Array.mem_of_getElem? (i := 0) rfl) rfl
          have q16 : a'.tmps[16]? = some (val 0) := hS.tmpSet 0 _ 16 rfl rfl (by simp) l0
          rw [show val 0 = .slice (some ⟨g, o, none⟩) n c0 from hF 0 l0 (by decide)] at q16
          have l1 : listed.getD 1 false = true := haf ⟨1, .data⟩ (Array.mem_of_getElem? (i := 1) rfl) rfl
          have q17 : a'.tmps[17]? = some (val 1) := hS.tmpSet 1 _ 17 rfl rfl (by simp) l1
          rw [show val 1 = .int .i64 (k : Int) from hF 1 l1 (by decide)] at q17
          refine op_valv (.pointer (some ⟨g, o + k * 3, none⟩)) W (fun _ _ => trivial) ?_ ⟨rfl, rfl⟩
          rw [Oper.semAt_plain _ _ _ (by intro c h; cases h)]
          simp [execOp, q16, q17, hkn, go_sem]
        · cases ho
          have l2 : listed.getD 2 false = true := haf ⟨2, .data⟩ (Array.mem_of_getElem? (i := 0) rfl) rfl
          have q18 : a'.tmps[18]? = some (val 2) := hS.tmpSet 2 _ 18 rfl rfl (by simp) l2
          rw [show val 2 = .pointer (some ⟨g, o + k * 3, none⟩) from hF 2 l2 (by decide)] at q18
          refine op_valv (.pointer (some ⟨g, o + k * 3, none⟩)) W (fun _ _ => trivial) ?_ ⟨rfl, rfl⟩
          rw [Oper.semAt_plain _ _ _ (by intro c h; cases h)]
          simp [execOp, q18, go_sem]
        · cases ho
          have l3 : listed.getD 3 false = true := haf ⟨3, .data⟩ (Array.mem_of_getElem? (i := 0) rfl) rfl
          have q19 : a'.tmps[19]? = some (val 3) := hS.tmpSet 3 _ 19 rfl rfl (by simp) l3
          rw [show val 3 = .pointer (some ⟨g, o + k * 3, none⟩) from hF 3 l3 (by decide)] at q19
          obtain ⟨y0, y1, y2⟩ := HCX.out W (HWW.out W hps.1)
          refine op_valv (.int .i64 kd) W (fun _ _ => trivial) ?_ ⟨rfl, rfl⟩
          rw [Oper.semAt_plain _ _ _ (by intro c h; cases h)]
          simp [execOp, q19, y0, go_sem]
        · cases ho
          have q0 : a'.tmps[0]? = some (.slice (some ⟨g, o, none⟩) n c0) := (hS.tmpBase 0 (by kernel_rfl)).trans rfl
          refine op_valv (.slice (some ⟨g, o, none⟩) n c0) W (fun _ _ => trivial) ?_ ⟨rfl, rfl⟩
          rw [Oper.semAt_plain _ _ _ (by intro c h; cases h)]
          simp [execOp, q0, go_sem]
        · cases ho
          have q4 : a'.tmps[4]? = some (.int .i64 (k : Int)) := (hS.tmpBase 4 (by kernel_rfl)).trans rfl
          refine op_valv (.int .i64 (k : Int)) W (fun _ _ => trivial) ?_ ⟨rfl, rfl⟩
          rw [Oper.semAt_plain _ _ _ (by intro c h; cases h)]
          simp [execOp, q4, go_sem]
        · cases ho
          have l5 : listed.getD 5 false = true := haf ⟨5, .data⟩ (Array.mem_of_getElem? (i := 0) rfl) rfl
          have q21 : a'.tmps[21]? = some (val 5) := hS.tmpSet 5 _ 21 rfl rfl (by simp) l5
          rw [show val 5 = .slice (some ⟨g, o, none⟩) n c0 from hF 5 l5 (by decide)] at q21
          have l6 : listed.getD 6 false = true := haf ⟨6, .data⟩ (Array.mem_of_getElem? (i := 1) rfl) rfl
          have q22 : a'.tmps[22]? = some (val 6) := hS.tmpSet 6 _ 22 rfl rfl (by simp) l6
          rw [show val 6 = .int .i64 (k : Int) from hF 6 l6 (by decide)] at q22
          refine op_valv (.pointer (some ⟨g, o + k * 3, none⟩)) W (fun _ _ => trivial) ?_ ⟨rfl, rfl⟩
          rw [Oper.semAt_plain _ _ _ (by intro c h; cases h)]
          simp [execOp, q21, q22, hkn, go_sem]
        · cases ho
          have l7 : listed.getD 7 false = true := haf ⟨7, .data⟩ (Array.mem_of_getElem? (i := 0) rfl) rfl
          have q23 : a'.tmps[23]? = some (val 7) := hS.tmpSet 7 _ 23 rfl rfl (by simp) l7
          rw [show val 7 = .pointer (some ⟨g, o + k * 3, none⟩) from hF 7 l7 (by decide)] at q23
          refine op_valv (.pointer (some ⟨g, o + k * 3 + 1, none⟩)) W (fun _ _ => trivial) ?_ ⟨rfl, rfl⟩
          rw [Oper.semAt_plain _ _ _ (by intro c h; cases h)]
          simp [execOp, q23, go_sem]
        · cases ho
          have l8 : listed.getD 8 false = true := haf ⟨8, .data⟩ (Array.mem_of_getElem? (i := 0) rfl) rfl
          have q24 : a'.tmps[24]? = some (val 8) := hS.tmpSet 8 _ 24 rfl rfl (by simp) l8
          rw [show val 8 = .pointer (some ⟨g, o + k * 3 + 1, none⟩) from hF 8 l8 (by decide)] at q24
          obtain ⟨y0, y1, y2⟩ := HCX.out W (HWW.out W hps.1)
          refine op_valv (.string U) W (fun _ _ => trivial) ?_ ⟨rfl, rfl⟩
          rw [Oper.semAt_plain _ _ _ (by intro c h; cases h)]
          simp [execOp, q24, y1, go_sem]
        · cases ho
          have l9 : listed.getD 9 false = true := haf ⟨9, .data⟩ (Array.mem_of_getElem? (i := 0) rfl) rfl
          have q25 : a'.tmps[25]? = some (val 9) := hS.tmpSet 9 _ 25 rfl rfl (by simp) l9
          rw [show val 9 = .string U from hF 9 l9 (by decide)] at q25
          refine op_callv 21 #[.string U] (fun _ _ => trivial) ?_ (by omega) ((callsIn_wide.2 (HCU.out W)).mono ?_)
          · rw [Oper.semAt_plain _ _ _ (by intro c h; cases h)]
            simp [execOp, q25, go_sem]
          · rintro e w5 ⟨rfl, rfl⟩
            exact ⟨_, rfl, rfl, rfl⟩
        · cases ho
          have l4 : listed.getD 4 false = true := haf ⟨4, .data⟩ (Array.mem_of_getElem? (i := 0) rfl) rfl
          have q20 : a'.tmps[20]? = some (val 4) := hS.tmpSet 4 _ 20 rfl rfl (by simp) l4
          rw [show val 4 = .int .i64 kd from hF 4 l4 (by decide)] at q20
          have l10 : listed.getD 10 false = true := haf ⟨10, .data⟩ (Array.mem_of_getElem? (i := 1) rfl) rfl
          have q26 : a'.tmps[26]? = some (val 10) := hS.tmpSet 10 _ 26 rfl rfl (by simp) l10
          rw [show val 10 = .string V from hF 10 l10 (by decide)] at q26
          refine op_valv (.agg #[.int .i64 kd, .string V, .slice none 0 0]) W (fun _ _ => trivial) ?_ ⟨rfl, rfl⟩
          rw [Oper.semAt_plain _ _ _ (by intro c h; cases h)]
          simp [execOp, q20, q26, go_sem]
        · exact absurd (by decide) hic
        · exact absurd (by decide) hic
      · intro m i oo listed a' W val ho hmi haf hS hF hps
        have hmm : m < 2 := (List.getElem?_eq_some_iff.1 hmi).1
        obtain rfl | rfl : m = 0 ∨ m = 1 := by omega
        · cases hmi
          cases ho
          refine op_valv (.pointer (some ⟨W.heap.size, 0, none⟩)) (W.alloc (.cells #[.int .i64 0, .string ⟨#[]⟩, .slice none 0 0] 42)) (fun _ _ => trivial) ?_ ⟨hps.1.alloc hps.1.size _, W.heap.size, rfl, Row.new _ _ _, hps.1.size⟩
          rw [Oper.semAt_plain _ _ _ (by intro c h; cases h)]
          simp [execOp, go_sem]
        · cases hmi
          cases ho
          have l12 : listed.getD 12 false = true := haf ⟨12, .data⟩ (Array.mem_of_getElem? (i := 0) rfl) rfl
          have q5 : a'.tmps[5]? = some (val 12) := hS.tmpSet 12 _ 5 rfl rfl (by simp) l12
          have l11 : listed.getD 11 false = true := haf ⟨11, .data⟩ (Array.mem_of_getElem? (i := 1) rfl) rfl
          have q27 : a'.tmps[27]? = some (val 11) := hS.tmpSet 11 _ 27 rfl rfl (by simp) l11
          rw [show val 11 = .agg #[.int .i64 kd, .string V, .slice none 0 0] from hF 11 l11 (by decide)] at q27
          obtain ⟨hb, h, hv, hr, hB⟩ := hps
          have r1 : Row (W.setCell ⟨h, 0, none⟩ (.int .i64 kd)) h 42 #[.int .i64 kd, .string ⟨#[]⟩, .slice none 0 0] := hr.set 0 _
          have r2 : Row ((W.setCell ⟨h, 0, none⟩ (.int .i64 kd)).setCell ⟨h, 1, none⟩ (.string V)) h 42 #[.int .i64 kd, .string V, .slice none 0 0] := r1.set 1 _
          obtain ⟨x0, _, _, f0, _, _⟩ := node_cells hr
          obtain ⟨_, x1, _, _, f1, _⟩ := node_cells r1
          obtain ⟨_, _, x2, _, _, f2⟩ := node_cells r2
          rw [hv] at q5
          refine op_skipv _ (fun _ _ => trivial) ?_ ⟨((hb.setCell (p := ⟨h, 0, none⟩) hB _).setCell (p := ⟨h, 1, none⟩) hB _).setCell (p := ⟨h, 2, none⟩) hB _, h, hv, r2.set 2 (.slice none 0 0), hB⟩
          rw [Oper.semAt_plain _ _ _ (by intro c h; cases h)]
          simp [execOp, q5, q27, x0, x1, x2, f0, f1, f2, go_sem]
      · intro W5 val hps hF
        obtain ⟨hb5, h, hv, hr5, hB⟩ := hps
        have HB5 := Lib.hid hb5
        have HR5 := Lib.hid hr5
        simp only [finAct, List.getElem?_toArray, List.getElem?_cons_zero, List.getElem?_cons_succ, Act.put, List.setIfInBounds_toArray, List.set_cons_zero, List.set_cons_succ, List.size_toArray, List.length_cons, List.length_nil, Nat.reduceAdd]
        rw [hv]
        clear hb5 hr5 hF hv
        gi_wp2
        refine wpIn_region_chainC (by kernel_rfl) (by kernel_rfl) [15, 17] (by kernel_rfl) (by decide) (by decide) (fun j v => v = [(.pointer (some ⟨h, 2, none⟩) : Value), .slice none 0 0, .slice (some ⟨g, o, none⟩) n c0, .int .i64 (k : Int), .pointer (some ⟨g, o + k * 3, none⟩), .pointer (some ⟨g, o + k * 3 + 2, none⟩), .slice ka K kc, .slice (some ⟨g, o, none⟩) n c0, .int .i64 (k : Int), .pointer (some ⟨g, o + k * 3, none⟩), .pointer (some ⟨g, o + k * 3 + 2, none⟩), .slice ka K kc, .int .i64 (K : Int), .int .i64 (m : Int), .slice ka m kc, undef, .pointer (some ⟨h, 2, none⟩), undef].getD j undef) (PA wo.heap.size wo h 15 kd V (.slice none 0 0) (x.kids.take 60)) ?_ ?_ ?_ ?_ ?_
        · intro val
          exact ⟨HB5.out.drew, HR5.out.drew⟩
        · intro ph val val' W hval hps
          refine ⟨hps.1, ?_⟩
          rcases ph with _ | _ | ph
          · exact hps.2
          · obtain ⟨h1, h2⟩ := hps.2
            refine ⟨h1, ?_⟩
            rw [← hval 0 15 (by omega) rfl]
            exact h2
          · exact hps.2
        · intro i oo listed a' W val ph ho hic haf hS hF hbk hlm hps
          have hii : i < 18 := (Array.getElem?_eq_some_iff.1 ho).1
          obtain rfl | rfl | rfl | rfl | rfl | rfl | rfl | rfl | rfl | rfl | rfl | rfl | rfl | rfl | rfl | rfl | rfl | rfl : i = 0 ∨ i = 1 ∨ i = 2 ∨ i = 3 ∨ i = 4 ∨ i = 5 ∨ i = 6 ∨ i = 7 ∨ i = 8 ∨ i = 9 ∨ i = 10 ∨ i = 11 ∨ i = 12 ∨ i = 13 ∨ i = 14 ∨ i = 15 ∨ i = 16 ∨ i = 17 := by omega
          · cases ho
            have q5 : a'.tmps[5]? = some (.pointer (some ⟨h, 0, none⟩)) := (hS.tmpBase 5 (by kernel_rfl)).trans rfl
            refine op_valv (.pointer (some ⟨h, 2, none⟩)) W (fun _ _ => trivial) ?_ ⟨rfl, rfl⟩
            rw [Oper.semAt_plain _ _ _ (by intro c h; cases h)]
            simp [execOp, q5, go_sem]
          · cases ho
            have l0 : listed.getD 0 false = true := haf ⟨0, .data⟩ (Array.mem_of_getElem? (i := 0) rfl) rfl
            have q28 : a'.tmps[28]? = some (val 0) := hS.tmpSet 0 _ 28 rfl rfl (by simp) l0
            rw [show val 0 = .pointer (some ⟨h, 2, none⟩) from hF 0 l0 (by decide)] at q28
            obtain rfl : ph = 0 := by have := hbk 0 15 rfl (by kernel_rfl); omega
            have z2 := hps.2.cell 2
            simp only [List.getElem?_toArray, List.getElem?_cons_zero, List.getElem?_cons_succ] at z2
            refine op_valv (.slice none 0 0) W (fun _ _ => trivial) ?_ ⟨rfl, rfl⟩
            rw [Oper.semAt_plain _ _ _ (by intro c h; cases h)]
            simp [execOp, q28, z2, go_sem]
          · cases ho
            have q0 : a'.tmps[0]? = some (.slice (some ⟨g, o, none⟩) n c0) := (hS.tmpBase 0 (by kernel_rfl)).trans rfl
            refine op_valv (.slice (some ⟨g, o, none⟩) n c0) W (fun _ _ => trivial) ?_ ⟨rfl, rfl⟩
            rw [Oper.semAt_plain _ _ _ (by intro c h; cases h)]
            simp [execOp, q0, go_sem]
          · cases ho
            have q4 : a'.tmps[4]? = some (.int .i64 (k : Int)) := (hS.tmpBase 4 (by kernel_rfl)).trans rfl
            refine op_valv (.int .i64 (k : Int)) W (fun _ _ => trivial) ?_ ⟨rfl, rfl⟩
            rw [Oper.semAt_plain _ _ _ (by intro c h; cases h)]
            simp [execOp, q4, go_sem]
          · cases ho
            have l2 : listed.getD 2 false = true := haf ⟨2, .data⟩ (Array.mem_of_getElem? (i := 0) rfl) rfl
            have q30 : a'.tmps[30]? = some (val 2) := hS.tmpSet 2 _ 30 rfl rfl (by simp) l2
            rw [show val 2 = .slice (some ⟨g, o, none⟩) n c0 from hF 2 l2 (by decide)] at q30
            have l3 : listed.getD 3 false = true := haf ⟨3, .data⟩ (Array.mem_of_getElem? (i := 1) rfl) rfl
            have q31 : a'.tmps[31]? = some (val 3) := hS.tmpSet 3 _ 31 rfl rfl (by simp) l3
            rw [show val 3 = .int .i64 (k : Int) from hF 3 l3 (by decide)] at q31
            refine op_valv (.pointer (some ⟨g, o + k * 3, none⟩)) W (fun _ _ => trivial) ?_ ⟨rfl, rfl⟩
            rw [Oper.semAt_plain _ _ _ (by intro c h; cases h)]
            simp [execOp, q30, q31, hkn, go_sem]
          · cases ho
            have l4 : listed.getD 4 false = true := haf ⟨4, .data⟩ (Array.mem_of_getElem? (i := 0) rfl) rfl
            have q32 : a'.tmps[32]? = some (val 4) := hS.tmpSet 4 _ 32 rfl rfl (by simp) l4
            rw [show val 4 = .pointer (some ⟨g, o + k * 3, none⟩) from hF 4 l4 (by decide)] at q32
            refine op_valv (.pointer (some ⟨g, o + k * 3 + 2, none⟩)) W (fun _ _ => trivial) ?_ ⟨rfl, rfl⟩
            rw [Oper.semAt_plain _ _ _ (by intro c h; cases h)]
            simp [execOp, q32, go_sem]
          · cases ho
            have l5 : listed.getD 5 false = true := haf ⟨5, .data⟩ (Array.mem_of_getElem? (i := 0) rfl) rfl
            have q33 : a'.tmps[33]? = some (val 5) := hS.tmpSet 5 _ 33 rfl rfl (by simp) l5
            rw [show val 5 = .pointer (some ⟨g, o + k * 3 + 2, none⟩) from hF 5 l5 (by decide)] at q33
            obtain ⟨y0, y1, y2⟩ := HCX.out W (HWW.out W hps.1)
            refine op_valv (.slice ka K kc) W (fun _ _ => trivial) ?_ ⟨rfl, rfl⟩
            rw [Oper.semAt_plain _ _ _ (by intro c h; cases h)]
            simp [execOp, q33, y2, go_sem]
          · cases ho
            have q0 : a'.tmps[0]? = some (.slice (some ⟨g, o, none⟩) n c0) := (hS.tmpBase 0 (by kernel_rfl)).trans rfl
            refine op_valv (.slice (some ⟨g, o, none⟩) n c0) W (fun _ _ => trivial) ?_ ⟨rfl, rfl⟩
            rw [Oper.semAt_plain _ _ _ (by intro c h; cases h)]
            simp [execOp, q0, go_sem]
          · cases ho
            have q4 : a'.tmps[4]? = some (.int .i64 (k : Int)) := (hS.tmpBase 4 (by kernel_rfl)).trans rfl
            refine op_valv (.int .i64 (k : Int)) W (fun _ _ => trivial) ?_ ⟨rfl, rfl⟩
            rw [Oper.semAt_plain _ _ _ (by intro c h; cases h)]
            simp [execOp, q4, go_sem]
          · cases ho
            have l7 : listed.getD 7 false = true := haf ⟨7, .data⟩ (Array.mem_of_getElem? (i := 0) rfl) rfl
            have q35 : a'.tmps[35]? = some (val 7) := hS.tmpSet 7 _ 35 rfl rfl (by simp) l7
            rw [show val 7 = .slice (some ⟨g, o, none⟩) n c0 from hF 7 l7 (by decide)] at q35
            have l8 : listed.getD 8 false = true := haf ⟨8, .data⟩ (Array.mem_of_getElem? (i := 1) rfl) rfl
            have q36 : a'.tmps[36]? = some (val 8) := hS.tmpSet 8 _ 36 rfl rfl (by simp) l8
            rw [show val 8 = .int .i64 (k : Int) from hF 8 l8 (by decide)] at q36
            refine op_valv (.pointer (some ⟨g, o + k * 3, none⟩)) W (fun _ _ => trivial) ?_ ⟨rfl, rfl⟩
            rw [Oper.semAt_plain _ _ _ (by intro c h; cases h)]
            simp [execOp, q35, q36, hkn, go_sem]
          · cases ho
            have l9 : listed.getD 9 false = true := haf ⟨9, .data⟩ (Array.mem_of_getElem? (i := 0) rfl) rfl
            have q37 : a'.tmps[37]? = some (val 9) := hS.tmpSet 9 _ 37 rfl rfl (by simp) l9
            rw [show val 9 = .pointer (some ⟨g, o + k * 3, none⟩) from hF 9 l9 (by decide)] at q37
            refine op_valv (.pointer (some ⟨g, o + k * 3 + 2, none⟩)) W (fun _ _ => trivial) ?_ ⟨rfl, rfl⟩
            rw [Oper.semAt_plain _ _ _ (by intro c h; cases h)]
            simp [execOp, q37, go_sem]
          · cases ho
            have l10 : listed.getD 10 false = true := haf ⟨10, .data⟩ (Array.mem_of_getElem? (i := 0) rfl) rfl
            have q38 : a'.tmps[38]? = some (val 10) := hS.tmpSet 10 _ 38 rfl rfl (by simp) l10
            rw [show val 10 = .pointer (some ⟨g, o + k * 3 + 2, none⟩) from hF 10 l10 (by decide)] at q38
            obtain ⟨y0, y1, y2⟩ := HCX.out W (HWW.out W hps.1)
            refine op_valv (.slice ka K kc) W (fun _ _ => trivial) ?_ ⟨rfl, rfl⟩
            rw [Oper.semAt_plain _ _ _ (by intro c h; cases h)]
            simp [execOp, q38, y2, go_sem]
          · cases ho
            have l11 : listed.getD 11 false = true := haf ⟨11, .data⟩ (Array.mem_of_getElem? (i := 0) rfl) rfl
            have q39 : a'.tmps[39]? = some (val 11) := hS.tmpSet 11 _ 39 rfl rfl (by simp) l11
            rw [show val 11 = .slice ka K kc from hF 11 l11 (by decide)] at q39
            refine op_valv (.int .i64 (K : Int)) W (fun _ _ => trivial) ?_ ⟨rfl, rfl⟩
            rw [Oper.semAt_plain _ _ _ (by intro c h; cases h)]
            simp [execOp, q39, go_sem]
          · cases ho
            have l12 : listed.getD 12 false = true := haf ⟨12, .data⟩ (Array.mem_of_getElem? (i := 0) rfl) rfl
            have q40 : a'.tmps[40]? = some (val 12) := hS.tmpSet 12 _ 40 rfl rfl (by simp) l12
            rw [show val 12 = .int .i64 (K : Int) from hF 12 l12 (by decide)] at q40
            refine op_valv (.int .i64 (m : Int)) W (fun _ _ => trivial) ?_ ⟨rfl, rfl⟩
            rw [Oper.semAt_plain _ _ _ (by intro c h; cases h)]
            simp [execOp, q40, hmin, go_sem]
          · cases ho
            have l6 : listed.getD 6 false = true := haf ⟨6, .data⟩ (Array.mem_of_getElem? (i := 0) rfl) rfl
            have q34 : a'.tmps[34]? = some (val 6) := hS.tmpSet 6 _ 34 rfl rfl (by simp) l6
            rw [show val 6 = .slice ka K kc from hF 6 l6 (by decide)] at q34
            have l13 : listed.getD 13 false = true := haf ⟨13, .data⟩ (Array.mem_of_getElem? (i := 1) rfl) rfl
            have q41 : a'.tmps[41]? = some (val 13) := hS.tmpSet 13 _ 41 rfl rfl (by simp) l13
            rw [show val 13 = .int .i64 (m : Int) from hF 13 l13 (by decide)] at q41
            refine op_valv (.slice ka m kc) W (fun _ _ => trivial) ?_ ⟨rfl, rfl⟩
            rw [Oper.semAt_plain _ _ _ (by intro c h; cases h)]
            simp [execOp, q34, q41, hmc, go_sem]
          · exact absurd (by decide) hic
          · cases ho
            have q5 : a'.tmps[5]? = some (.pointer (some ⟨h, 0, none⟩)) := (hS.tmpBase 5 (by kernel_rfl)).trans rfl
            refine op_valv (.pointer (some ⟨h, 2, none⟩)) W (fun _ _ => trivial) ?_ ⟨rfl, rfl⟩
            rw [Oper.semAt_plain _ _ _ (by intro c h; cases h)]
            simp [execOp, q5, go_sem]
          · exact absurd (by decide) hic
        · intro m i oo listed a' W val ho hmi haf hS hF hps
          have hmm : m < 2 := (List.getElem?_eq_some_iff.1 hmi).1
          obtain rfl | rfl : m = 0 ∨ m = 1 := by omega
          · cases hmi
            cases ho
            have l1 : listed.getD 1 false = true := haf ⟨1, .data⟩ (Array.mem_of_getElem? (i := 0) rfl) rfl
            have q29 : a'.tmps[29]? = some (val 1) := hS.tmpSet 1 _ 29 rfl rfl (by simp) l1
            rw [show val 1 = .slice none 0 0 from hF 1 l1 (by decide)] at q29
            have l14 : listed.getD 14 false = true := haf ⟨14, .data⟩ (Array.mem_of_getElem? (i := 1) rfl) rfl
            have q42 : a'.tmps[42]? = some (val 14) := hS.tmpSet 14 _ 42 rfl rfl (by simp) l14
            rw [show val 14 = .slice ka m kc from hF 14 l14 (by decide)] at q42
            obtain ⟨v5, w5, hrun, ho, hg⟩ := run_append_kl (W := W) (base := wo.heap.size) (ty := 40) (IOwn.nil W _) (HKT.out W (HWW.out W hps.1)) (by simp only [List.length_nil]; have := HKL.out; omega) hps.1.size
            rw [List.nil_append] at ho
            refine op_valv v5 w5 (fun _ _ => trivial) ?_ ⟨below_grown2 hps.1 hps.1.size hg (fun g e => by cases e), row_grown hps.2 hg (by intro e; cases e), ho⟩
            have e1 : a'.eval (.tmp 29) = .slice none 0 0 := by simp [q29, go_sem]
            have e2 : a'.eval (.tmp 42) = .slice ka m kc := by simp [q42, go_sem]
            rw [Oper.semAt_plain _ _ _ (by intro c h; cases h)]
            simp [execOp, resolve, invoke, builtin, e1, e2, hrun, Result.andThen]
          · cases hmi
            cases ho
            have l16 : listed.getD 16 false = true := haf ⟨16, .data⟩ (Array.mem_of_getElem? (i := 0) rfl) rfl
            have q44 : a'.tmps[44]? = some (val 16) := hS.tmpSet 16 _ 44 rfl rfl (by simp) l16
            rw [show val 16 = .pointer (some ⟨h, 2, none⟩) from hF 16 l16 (by decide)] at q44
            have l15 : listed.getD 15 false = true := haf ⟨15, .data⟩ (Array.mem_of_getElem? (i := 1) rfl) rfl
            have q43 : a'.tmps[43]? = some (val 15) := hS.tmpSet 15 _ 43 rfl rfl (by simp) l15
            obtain ⟨hb, hr, ho⟩ := hps
            obtain ⟨v5, hv5⟩ : ∃ v5, v5 = val 15 := ⟨_, rfl⟩
            rw [← hv5] at ho q43
            obtain ⟨a5, c5, rfl⟩ := own_form ho
            have z2 := hr.cell 2
            have f2 := hr.frozen 2
            simp only [List.getElem?_toArray, List.getElem?_cons_zero, List.getElem?_cons_succ] at z2
            refine op_skipv (W.setCell ⟨h, 2, none⟩ (.slice a5 (x.kids.take 60).length c5)) (fun _ _ => trivial) ?_ ⟨hb.setCell (p := ⟨h, 2, none⟩) hB _, _, hr.set 2 _, World.ownsRow.kept ho (grown_set _ _ _ _) (.inr (fun e => own_off ho hr (by decide) e))⟩
            rw [Oper.semAt_plain _ _ _ (by intro c h; cases h)]
            simp [execOp, q44, q43, z2, f2, go_sem]
        · intro W6 val6 hps6 hF6
          obtain ⟨hb6, q, hr6, ho6⟩ := hps6
          obtain ⟨qa, qc, rfl⟩ := own_form ho6
          rw [HQL.out] at hr6
          obtain ⟨z0, z1, z2, _, _, _⟩ := node_cells hr6
          have HB6 := Lib.hid hb6
          have HO6 : Hid (IOwn W6 wo.heap.size (.slice qa m qc) (x.kids.take 60)) := Lib.hid (by rw [← HQL.out]; exact ho6)
          simp only [finAct, List.getElem?_toArray, List.getElem?_cons_zero, List.getElem?_cons_succ, Act.put, List.setIfInBounds_toArray, List.set_cons_zero, List.set_cons_succ, List.size_toArray, List.length_cons, List.length_nil, Nat.reduceAdd]
          clear hb6 hr6 ho6 hF6
          have hLl : L.length = k := by
            have := congrArg List.length HL.out
            rw [List.length_map, List.length_map, List.length_take, ← HN.out] at this
            omega
          have HON := Lib.hid ((HO.out.below HB6.out).row)
          have H1 : Hid (∀ (j : Nat) (u : Value), [Value.int .i64 kd, .string V, .slice qa m qc][j]? = some u → (W6.alloc (.cells #[.int .i64 kd, .string V, .slice qa m qc] 42)).cell? ((⟨W6.heap.size, 0, none⟩ : Addr).add j) = some u) := Lib.hid (World.news_of_block (World.alloc_heap_new W6 (.cells #[.int .i64 kd, .string V, .slice qa m qc] 42)))
          have H5 : Hid (w.heap.size ≤ (W6.alloc (.cells #[.int .i64 kd, .string V, .slice qa m qc] 42)).heap.size) := Lib.hid (by rw [World.size_alloc]; have := HB6.out.size; omega)
          have H4 : Hid (L.length + 1 ≤ maxLen ∧ (L.length + 1) * 48 ≤ 140737488355328) := Lib.hid ⟨by unfold maxLen; omega, by omega⟩
          have HLL := Lib.hid hLl
          clear hLl
          gi_wp2_with (gi_at_builtin; refine wpListIn_append_own _ rfl (.tmp 45) (.tmp 47) 22 rfl w.heap.size 42 i2 (.agg #[.int .i64 0, .string ⟨#[]⟩, .slice none 0 0]) 3 48 Tryd.underlying22 hj hy0 hy1 hy2 rfl (by decide) u3 L.length (cellsN L) rfl (HON.out.alloc _) ⟨W6.heap.size, 0, none⟩ 1 1 [.int .i64 kd, .string V, .slice qa m qc] rfl rfl H1.out (by simp [Value.oneCell']) H4.out.1 H4.out.2 H5.out ?_; intro v7 w7 ho7 hg7 _; have HO7 := Lib.hid ho7; have HG7 := Lib.hid hg7; clear ho7 hg7)
          go_roundw
          case rel =>
            have hb7 := HB6.out.alloc HB6.out.size (.cells #[.int .i64 kd, .string V, .slice qa m qc] 42)
            have ho6 := own_kept HO6.out ((Below.refl _ W6).alloc (Nat.le_refl _) (.cells #[.int .i64 kd, .string V, .slice qa m qc] 42))
            have hO6 := HO.out.below hb7
            refine ⟨k + 1, L ++ [(cutN x, .slice qa m qc)], by omega, by omega, by go_num, hO6.grow HG7.out ?_ ?_, ?_, ?_⟩
            · rw [List.length_append, cellsN_snoc, HNOD.out]
              exact HO7.out
            · intro p hp
              obtain rfl := List.mem_singleton.1 hp
              exact own_mono ho6 hbs
            · rw [List.map_append, HL.out, List.take_add_one, HX.out, List.map_append]
              rfl
            · exact below_grown2 (HWW.out _ hb7) (HWW.out _ hb7).size HG7.out (fun j e => (HON.out.lt j e).1)
          case measure => simp [intOf]; omega
    · have HE : Hid (L.map (·.1) = fewN T) := Lib.hid (by
        rw [HL.out]
        unfold fewN
        congr 1
        rw [List.take_eq_take_iff, ← HN.out]
        omega)
      rcases Nat.lt_or_ge k n with hkn | hkn
      · obtain rfl : k = 60 := by omega
        clear hB hlt
        gi_wp2
        refine bodyPost_ret (v := u3) (by simp [results, Tryd.f10, go_sem]) rfl ⟨HB.out, u3, L, rfl, HO.out, HE.out⟩
      · obtain rfl : k = n := by omega
        clear hB hlt
        gi_wp2
        refine bodyPost_ret (v := u3) (by simp [results, Tryd.f10, go_sem]) rfl ⟨HB.out, u3, L, rfl, HO.out, HE.out⟩
end Go.Proofs.YtbegplfijjbpcaaDoor.No
/- The law's side: the first four trees, each cut. -/
namespace Go.Proofs.YtbegplfijjbpcaaDoor.No
open Go Go.RowKit Go.Shelf
attribute [local go_sem] Oper.semAt_some

theorem infoS : ∃ i, Tryd.prog.info? 22 = some i ∧ i.zero = some (.slice none 0 0) ∧ i.size = 1 ∧ i.bytes = 24 :=
  info_parts (show (Tryd.prog.info? 22).map (fun i => (i.zero, i.size, i.bytes)) = some (some (.slice none 0 0), 1, 24) by kernel_rfl)
/-- THE SLICE VALUE v OWNS THE LISTS OF NODES M, and each value owns its nodes. -/
structure SOwn (W : World) (base : Nat) (v : Value) (M : List (List (Nd × Value) × Value)) : Prop where
  row : W.ownsRow base 22 1 v M.length (M.map (·.2))
  el : ∀ p ∈ M, NOwn W base p.2 p.1
theorem SOwn.nil (W : World) (base : Nat) : SOwn W base (.slice none 0 0) [] := ⟨World.ownsRow_nil _ _ _ _, fun _ h => by cases h⟩
theorem SOwn.below {W W' : World} {base : Nat} {v : Value} {M : List (List (Nd × Value) × Value)} (h : SOwn W base v M) (hb : Below W.heap.size W W') : SOwn W' base v M := ⟨own_kept h.row hb, fun p hp => (h.el p hp).below hb⟩
/-- Rows of other things are kept when a row grows. -/
theorem NOwn.far {W W' : World} {base b : Nat} {v u : Value} {L : List (Nd × Value)} {t : TypeId} {s n : Nat} {xs : List Value} (h : NOwn W base v L) (hu : W.ownsRow b t s u n xs) (hg : W.grownBy W' u.ownBlock) (h1 : 42 ≠ t) (h2 : 3 ≠ t) : NOwn W' base v L :=
  ⟨World.ownsRow.kept h.row hg (own_apart h.row hu h1), fun p hp => World.ownsRow.kept (h.kid p hp) hg (own_apart (h.kid p hp) hu h2)⟩
theorem SOwn.grow {W W' : World} {base : Nat} {v u : Value} {M K : List (List (Nd × Value) × Value)} (h : SOwn W base v M) (hg : W.grownBy W' v.ownBlock) (hr : W'.ownsRow base 22 1 u (M ++ K).length ((M ++ K).map (·.2))) (hm : ∀ p ∈ K, NOwn W base p.2 p.1) : SOwn W' base u (M ++ K) := by
  refine ⟨hr, fun p hp => ?_⟩
  rcases List.mem_append.1 hp with hp | hp
  · exact (h.el p hp).far h.row hg (by decide) (by decide)
  · exact (hm p hp).far h.row hg (by decide) (by decide)
/-- It is a list of lists. -/
theorem SOwn.ll {W : World} {base : Nat} {v : Value} {M : List (List (Nd × Value) × Value)} (h : SOwn W base v M) : LL W v (M.map fun p => p.1.map (·.1)) := by
  have hlen : (M.map fun p => p.1.map (·.1)).length = M.length := List.length_map ..
  have h' := h.row
  rcases h.row.2 with ⟨hv, h0⟩ | ⟨g, cap, cur, hv, hg, hh, h1, h2, h3, h4⟩
  · obtain rfl : M = [] := List.length_eq_zero_iff.1 h0
    rw [hv]
    exact LL.nil W
  · subst hv
    have hlt := (Array.getElem?_eq_some_iff.1 hh).1
    refine ⟨⟨_, cap, by rw [hlen], by rw [hlen]; exact h1, h2⟩, fun _ => ⟨g, 0, cap, by rw [hlen], hlt, fun j K hj => ?_⟩⟩
    rw [List.getElem?_map] at hj
    obtain ⟨p, hp, rfl⟩ : ∃ p, M[j]? = some p ∧ p.1.map (·.1) = K := by
      cases hq : M[j]? with
      | none => rw [hq] at hj; cases hj
      | some p =>
        rw [hq] at hj
        injection hj with hj
        exact ⟨p, rfl, hj⟩
    have hjl : j < M.length := (List.getElem?_eq_some_iff.1 hp).1
    refine ⟨p.2, ?_, (h.el p (List.mem_of_getElem? hp)).nl⟩
    rw [Nat.zero_add, World.ownsRow.cellAt h' j (by omega), List.getElem?_map, hp]
    rfl
/-- The first four, cut. -/
def someN (KS : List (List Nd)) : List (List Nd) := (KS.take 4).map fewN
theorem someN_len (KS : List (List Nd)) : (someN KS).length ≤ 4 := by simp [someN]; omega
theorem someN_small (KS : List (List Nd)) : ∀ K ∈ someN KS, K.length ≤ 60 ∧ ∀ x ∈ K, x.kids.length ≤ 60 ∧ x.text.length ≤ 50 := by
  intro K hK
  obtain ⟨T, _, rfl⟩ := List.mem_map.1 hK
  exact ⟨fewN_len T, fewN_small T⟩

set_option maxRecDepth 100000 in
set_option maxHeartbeats 8000000 in
theorem some_c (w : World) (v : Value) (KS : List (List Nd)) (hT : LL w v KS) (ht : ∀ K ∈ KS, ∀ x ∈ K, x.text.length ≤ maxLen) :
    Calls Tryd.prog 19 #[v] w fun e W' => Below w.heap.size w W' ∧ ∃ u M, e = .returned u ∧ SOwn W' w.heap.size u M ∧ M.map (fun p => p.1.map (·.1)) = someN KS := by
  obtain ⟨i2, hj, hy0, hy1, hy2⟩ := infoS
  obtain ⟨a0, c0, rfl, hc1, hc2⟩ := hT.form
  unfold maxLen at hc2
  have HCT := Lib.hid hT.cells
  have HTX := Lib.hid ht
  obtain ⟨n, hn⟩ : ∃ n, n = KS.length := ⟨_, rfl⟩
  rw [← hn] at hc1 HCT ⊢
  have HN := Lib.hid hn
  have HD := Lib.hid (Below.refl w.heap.size w)
  clear hT hn ht
  go_enter Tryd.func19, Tryd.ntmps19
  go_wp2
  go_loopw [3, 4] (fun u i wr => ∃ (k : Nat) (M : List (List (Nd × Value) × Value)), k ≤ n ∧ k ≤ 4 ∧ i = .int .i64 k ∧ SOwn wr w.heap.size u M ∧ M.map (fun p => p.1.map (·.1)) = (KS.take k).map fewN ∧ Below w.heap.size w wr) (fun _ i _ => n - (intOf i).toNat)
  case atStart => exact ⟨0, [], Nat.zero_le _, Nat.zero_le _, rfl, SOwn.nil _ _, rfl, HD.out⟩
  case round =>
    obtain ⟨k, M, hk, hk4, rfl, hO, hM, hB⟩ := hrel
    have HO := Lib.hid hO
    have HM := Lib.hid hM
    have HB := Lib.hid hB
    have hbs := hB.size
    clear hO hM
    by_cases hlt : k < n ∧ k < 4
    · obtain ⟨g, o, c1, hv, hg, hcs⟩ := HCT.out (by omega)
      obtain rfl : a0 = some ⟨g, o, none⟩ := by injection hv
      obtain ⟨T, hx⟩ : ∃ x, KS[k]? = some x := ⟨_, List.getElem?_eq_getElem (by rw [← HN.out]; omega)⟩
      have HX := Lib.hid hx
      obtain ⟨q, y0, hq⟩ := hcs k T hx
      have e1 := (hB.cell (p := ⟨g, o + k, none⟩) hg).trans y0
      have HF := Lib.hid (few_c wr q T (hq.below (hB.mono (Nat.le_refl _))) (HTX.out T (List.mem_of_getElem? hx)))
      have hkn : k < n := hlt.1
      have hk40 : k < 4 := hlt.2
      clear hv hcs hx y0 hq hlt hB
      go_wp2_with fail
      refine HF.out.mono ?_
      rintro e w1 ⟨hb1, u, L, rfl, hN, hL⟩
      have HB1 := Lib.hid hb1
      have HN1 := Lib.hid (hN.mono hbs)
      have HL := Lib.hid hL
      have hMl : M.length = k := by
        have := congrArg List.length HM.out
        rw [List.length_map, List.length_map, List.length_take, ← HN.out] at this
        omega
      have HMl := Lib.hid hMl
      have HO1 := Lib.hid (HO.out.below hb1)
      have HON := Lib.hid HO1.out.row
      obtain ⟨ua, uc, hu⟩ := own_form hN.row
      have HU := Lib.hid hu
      obtain ⟨m, hm⟩ : ∃ m, m = L.length := ⟨_, rfl⟩
      rw [← hm] at hu
      subst hu
      have H1 : Hid (∀ (j : Nat) (z : Value), [Value.slice ua m uc][j]? = some z → (w1.alloc (.cells #[.slice ua m uc] 22)).cell? ((⟨w1.heap.size, 0, none⟩ : Addr).add j) = some z) := Lib.hid (World.news_of_block (World.alloc_heap_new w1 (.cells #[.slice ua m uc] 22)))
      have H2 : Hid (∀ z ∈ [Value.slice ua m uc], z.oneCell' = true) := Lib.hid (by simp [Value.oneCell'])
      have hb1s := hb1.size
      have H5 : Hid (w.heap.size ≤ (w1.alloc (.cells #[.slice ua m uc] 22)).heap.size) := Lib.hid (by rw [World.size_alloc]; omega)
      have H4 : Hid (M.length + 1 ≤ maxLen ∧ (M.length + 1) * 24 ≤ 140737488355328) := Lib.hid ⟨by unfold maxLen; omega, by omega⟩
      clear hb1 hN hL hMl hm
      go_wp2_with (at_builtin; refine wpList_append_own _ rfl (.tmp 15) (.tmp 21) 29 rfl w.heap.size 22 i2 (.slice none 0 0) 1 24 Tryd.underlying29 hj hy0 hy1 hy2 rfl (by decide) u3 M.length (M.map (·.2)) rfl (HON.out.alloc _) ⟨w1.heap.size, 0, none⟩ 1 1 [.slice ua m uc] rfl rfl H1.out H2.out H4.out.1 H4.out.2 H5.out ?_; intro v7 w7 ho7 hg7 _; have HO7 := Lib.hid ho7; have HG7 := Lib.hid hg7; clear ho7 hg7)
      go_roundw
      case rel =>
        have hal : Below w1.heap.size w1 (w1.alloc (.cells #[.slice ua m uc] 22)) := (Below.refl _ w1).alloc (Nat.le_refl _) _
        have hbw : Below w.heap.size w (w1.alloc (.cells #[.slice ua m uc] 22)) := (HB.out.trans (HB1.out.mono hbs)).trans (hal.mono (by omega))
        refine ⟨k + 1, M ++ [(L, .slice ua m uc)], by omega, by omega, by go_num, (HO1.out.below hal).grow HG7.out ?_ ?_, ?_, ?_⟩
        · rw [List.length_append, List.map_append]
          exact HO7.out
        · intro p hp
          obtain rfl := List.mem_singleton.1 hp
          exact HN1.out.below hal
        · rw [List.map_append, HM.out, List.take_add_one, HX.out, List.map_append]
          show _ ++ [L.map (·.1)] = _ ++ [fewN T]
          rw [HL.out]
        · exact below_grown2 hbw hbw.size HG7.out (fun j e => (HON.out.lt j e).1)
      case measure => simp [intOf]; omega
    · have HE : Hid (M.map (fun p => p.1.map (·.1)) = someN KS) := Lib.hid (by
        rw [HM.out]
        unfold someN
        congr 1
        rw [List.take_eq_take_iff, ← HN.out]
        omega)
      rcases Nat.lt_or_ge k n with hkn | hkn
      · obtain rfl : k = 4 := by omega
        clear hB hlt
        go_wp2
        go_ret
        exact ⟨HB.out, _, M, rfl, HO.out, HE.out⟩
      · obtain rfl : k = n := by omega
        clear hB hlt
        go_wp2
        go_ret
        exact ⟨HB.out, _, M, rfl, HO.out, HE.out⟩
end Go.Proofs.YtbegplfijjbpcaaDoor.No
/- The law's side: nodes that share no list. Written by gen/mkfew.py. -/
namespace Go.Proofs.YtbegplfijjbpcaaDoor.No
open Go Go.RowKit Go.Shelf
attribute [local go_sem] Oper.semAt_some

set_option maxRecDepth 100000 in
set_option maxHeartbeats 16000000 in
theorem own_c (w : World) (v : Value) (T : List Nd) (hT : NL w v T) (hkk : ∀ x ∈ T, x.kids.length ≤ 1000000) (hn1 : T.length ≤ 1000000) :
    Calls Tryd.prog 27 #[v] w fun e W' => Below w.heap.size w W' ∧ ∃ u L, e = .returned u ∧ NOwn W' w.heap.size u L ∧ L.map (·.1) = T := by
  obtain ⟨i2, hj, hy0, hy1, hy2⟩ := infoN
  obtain ⟨a0, c0, rfl, hc1, hc2⟩ := hT.form
  unfold maxLen at hc2
  have HCT := Lib.hid hT.cells
  have HKK := Lib.hid hkk
  obtain ⟨n, hn⟩ : ∃ n, n = T.length := ⟨_, rfl⟩
  rw [← hn] at hc1 HCT hn1 ⊢
  have HN := Lib.hid hn
  have HD := Lib.hid (Below.refl w.heap.size w)
  clear hT hn
  refine (callsIn_wide (n := 5)).1 ?_
  refine callsIn_of_wp Tryd.func27 rfl trivial ?_ rfl
  simp only [Tryd.ntmps27, List.size_toArray, List.length_cons, List.length_nil, Nat.reduceAdd, Nat.reduceSub, Array.replicate_succ, Array.replicate_zero, List.push_toArray, List.append_toArray, List.nil_append, List.cons_append]
  gi_wp2
  gi_loopw [3, 4] (fun u i wr => ∃ (k : Nat) (L : List (Nd × Value)), k ≤ n ∧ k ≤ n ∧ i = .int .i64 k ∧ NOwn wr w.heap.size u L ∧ L.map (·.1) = (T.take k).map id ∧ Below w.heap.size w wr) (fun _ i _ => n - (intOf i).toNat)
  case atStart => exact ⟨0, [], Nat.zero_le _, Nat.zero_le _, rfl, NOwn.nil _ _, rfl, HD.out⟩
  case round =>
    obtain ⟨k, L, hk, hk60, rfl, hO, hL, hB⟩ := hrel
    obtain ⟨wo, rfl⟩ : ∃ W, W = wr := ⟨_, rfl⟩
    have HO := Lib.hid hO
    have HL := Lib.hid hL
    have HB := Lib.hid hB
    have hbs := hB.size
    clear hO hL
    by_cases hlt : k < n
    · obtain ⟨g, o, c1, hv, hg, hcs⟩ := HCT.out (by omega)
      obtain rfl : a0 = some ⟨g, o, none⟩ := by injection hv
      obtain rfl : c0 = c1 := by injection hv
      obtain ⟨x, hx⟩ : ∃ x, T[k]? = some x := ⟨_, List.getElem?_eq_getElem (by rw [← HN.out]; omega)⟩
      have HX := Lib.hid hx
      obtain ⟨y0, y1, kx, y2, xk0⟩ := hcs k x hx
      obtain ⟨ka, kc, rfl, hl1, hl2⟩ := xk0.form
      unfold maxLen at hl2
      have HKL0 := Lib.hid xk0
      obtain ⟨K, hK⟩ : ∃ K, K = x.kids.length := ⟨_, rfl⟩
      obtain ⟨kd, hkd⟩ : ∃ n, n = x.kind := ⟨_, rfl⟩
      obtain ⟨U, hU⟩ : ∃ n, n = bs x.text := ⟨_, rfl⟩
      rw [← hK] at y2 hl1 HKL0
      rw [← hkd] at y0
      rw [← hU] at y1
      have HK := Lib.hid hK
      have HNOD : Hid (∀ q, nodC (id x, q) = [.int .i64 kd, .string U, q]) := Lib.hid (fun q => by rw [hkd, hU]; rfl)
      have HKT : Hid (∀ W, Below w.heap.size w W → KL W (.slice ka K kc) x.kids) := Lib.hid (fun W hW => HKL0.out.below hW)
      have HKL : Hid (x.kids.length ≤ 1000000) := Lib.hid (HKK.out x (List.mem_of_getElem? hx))
      have HQL : Hid (x.kids.length = K) := Lib.hid hK.symm
      have HCX : Hid (∀ W, Below w.heap.size w W → W.cell? ⟨g, o + k * 3, none⟩ = some (.int .i64 kd) ∧ W.cell? ⟨g, o + k * 3 + 1, none⟩ = some (.string U) ∧ W.cell? ⟨g, o + k * 3 + 2, none⟩ = some (.slice ka K kc)) := Lib.hid (fun W hW =>
        ⟨(hW.cell (p := ⟨g, o + k * 3, none⟩) hg).trans y0, (hW.cell (p := ⟨g, o + k * 3 + 1, none⟩) hg).trans y1, (hW.cell (p := ⟨g, o + k * 3 + 2, none⟩) hg).trans y2⟩)
      have HWW : Hid (∀ W, Below wo.heap.size wo W → Below w.heap.size w W) := Lib.hid (fun W hW => hB.trans (hW.mono hbs))
      have hkn : (k : Int) < (n : Int) := by omega
      clear hv hcs hx y0 y1 y2 xk0 hK hkd hU hB
      gi_wp2
      refine wpIn_region_chainC (by kernel_rfl) (by kernel_rfl) [11, 12] (by kernel_rfl) (by decide) (by decide) (fun j v => v = [(.slice (some ⟨g, o, none⟩) n c0 : Value), .int .i64 (k : Int), .pointer (some ⟨g, o + k * 3, none⟩), .pointer (some ⟨g, o + k * 3, none⟩), .int .i64 kd, .slice (some ⟨g, o, none⟩) n c0, .int .i64 (k : Int), .pointer (some ⟨g, o + k * 3, none⟩), .pointer (some ⟨g, o + k * 3 + 1, none⟩), .string U, .agg #[.int .i64 kd, .string U, .slice none 0 0], undef, undef].getD j undef) (PM wo.heap.size wo 11 #[.int .i64 kd, .string U, .slice none 0 0]) ?_ ?_ ?_ ?_ ?_
      · intro val
        exact ⟨(Below.refl _ _).drew, trivial⟩
      · intro ph val val' W hval hps
        refine ⟨hps.1, ?_⟩
        rcases ph with _ | _ | ph
        · trivial
        · obtain ⟨h, h1, h2⟩ := hps.2
          exact ⟨h, (hval 0 11 (by omega) rfl).symm.trans h1, h2⟩
        · obtain ⟨h, h1, h2⟩ := hps.2
          exact ⟨h, (hval 0 11 (by omega) rfl).symm.trans h1, h2⟩
      · intro i oo listed a' W val ph ho hic haf hS hF hbk hlm hps
        have hii : i < 13 := (Array.getElem?_eq_some_iff.1 ho).1
        obtain rfl | rfl | rfl | rfl | rfl | rfl | rfl | rfl | rfl | rfl | rfl | rfl | rfl : i = 0 ∨ i = 1 ∨ i = 2 ∨ i = 3 ∨ i = 4 ∨ i = 5 ∨ i = 6 ∨ i = 7 ∨ i = 8 ∨ i = 9 ∨ i = 10 ∨ i = 11 ∨ i = 12 := by omega
        · cases ho
          have q0 : a'.tmps[0]? = some (.slice (some ⟨g, o, none⟩) n c0) := (hS.tmpBase 0 (by kernel_rfl)).trans rfl
          refine op_valv (.slice (some ⟨g, o, none⟩) n c0) W (fun _ _ => trivial) ?_ ⟨rfl, rfl⟩
          rw [Oper.semAt_plain _ _ _ (by intro c h; cases h)]
          simp [execOp, q0, go_sem]
        · cases ho
          have q4 : a'.tmps[4]? = some (.int .i64 (k : Int)) := (hS.tmpBase 4 (by kernel_rfl)).trans rfl
          refine op_valv (.int .i64 (k : Int)) W (fun _ _ => trivial) ?_ ⟨rfl, rfl⟩
          rw [Oper.semAt_plain _ _ _ (by intro c h; cases h)]
          simp [execOp, q4, go_sem]
        · cases ho
          have l0 : listed.getD 0 false = true := haf ⟨0, .data⟩ (Array.mem_of_getElem? (i := 0) rfl) rfl
          have q12 : a'.tmps[12]? = some (val 0) := hS.tmpSet 0 _ 12 rfl rfl (by simp) l0
          rw [show val 0 = .slice (some ⟨g, o, none⟩) n c0 from hF 0 l0 (by decide)] at q12
          have l1 : listed.getD 1 false = true := haf ⟨1, .data⟩ (Array.mem_of_getElem? (i := 1) rfl) rfl
          have q13 : a'.tmps[13]? = some (val 1) := hS.tmpSet 1 _ 13 rfl rfl (by simp) l1
          rw [show val 1 = .int .i64 (k : Int) from hF 1 l1 (by decide)] at q13
          refine op_valv (.pointer (some ⟨g, o + k * 3, none⟩)) W (fun _ _ => trivial) ?_ ⟨rfl, rfl⟩
          rw [Oper.semAt_plain _ _ _ (by intro c h; cases h)]
          simp [execOp, q12, q13, hkn, go_sem]
        · cases ho
          have l2 : listed.getD 2 false = true := haf ⟨2, .data⟩ (Array.mem_of_getElem? (i := 0) rfl) rfl
          have q14 : a'.tmps[14]? = some (val 2) := hS.tmpSet 2 _ 14 rfl rfl (by simp) l2
          rw [show val 2 = .pointer (some ⟨g, o + k * 3, none⟩) from hF 2 l2 (by decide)] at q14
          refine op_valv (.pointer (some ⟨g, o + k * 3, none⟩)) W (fun _ _ => trivial) ?_ ⟨rfl, rfl⟩
          rw [Oper.semAt_plain _ _ _ (by intro c h; cases h)]
          simp [execOp, q14, go_sem]
        · cases ho
          have l3 : listed.getD 3 false = true := haf ⟨3, .data⟩ (Array.mem_of_getElem? (i := 0) rfl) rfl
          have q15 : a'.tmps[15]? = some (val 3) := hS.tmpSet 3 _ 15 rfl rfl (by simp) l3
          rw [show val 3 = .pointer (some ⟨g, o + k * 3, none⟩) from hF 3 l3 (by decide)] at q15
          obtain ⟨y0, y1, y2⟩ := HCX.out W (HWW.out W hps.1)
          refine op_valv (.int .i64 kd) W (fun _ _ => trivial) ?_ ⟨rfl, rfl⟩
          rw [Oper.semAt_plain _ _ _ (by intro c h; cases h)]
          simp [execOp, q15, y0, go_sem]
        · cases ho
          have q0 : a'.tmps[0]? = some (.slice (some ⟨g, o, none⟩) n c0) := (hS.tmpBase 0 (by kernel_rfl)).trans rfl
          refine op_valv (.slice (some ⟨g, o, none⟩) n c0) W (fun _ _ => trivial) ?_ ⟨rfl, rfl⟩
          rw [Oper.semAt_plain _ _ _ (by intro c h; cases h)]
          simp [execOp, q0, go_sem]
        · cases ho
          have q4 : a'.tmps[4]? = some (.int .i64 (k : Int)) := (hS.tmpBase 4 (by kernel_rfl)).trans rfl
          refine op_valv (.int .i64 (k : Int)) W (fun _ _ => trivial) ?_ ⟨rfl, rfl⟩
          rw [Oper.semAt_plain _ _ _ (by intro c h; cases h)]
          simp [execOp, q4, go_sem]
        · cases ho
          have l5 : listed.getD 5 false = true := haf ⟨5, .data⟩ (Array.mem_of_getElem? (i := 0) rfl) rfl
          have q17 : a'.tmps[17]? = some (val 5) := hS.tmpSet 5 _ 17 rfl rfl (by simp) l5
          rw [show val 5 = .slice (some ⟨g, o, none⟩) n c0 from hF 5 l5 (by decide)] at q17
          have l6 : listed.getD 6 false = true := haf ⟨6, .data⟩ (Array.mem_of_getElem? (i := 1) rfl) rfl
          have q18 : a'.tmps[18]? = some (val 6) := hS.tmpSet 6 _ 18 rfl rfl (by simp) l6
          rw [show val 6 = .int .i64 (k : Int) from hF 6 l6 (by decide)] at q18
          refine op_valv (.pointer (some ⟨g, o + k * 3, none⟩)) W (fun _ _ => trivial) ?_ ⟨rfl, rfl⟩
          rw [Oper.semAt_plain _ _ _ (by intro c h; cases h)]
          simp [execOp, q17, q18, hkn, go_sem]
        · cases ho
          have l7 : listed.getD 7 false = true := haf ⟨7, .data⟩ (Array.mem_of_getElem? (i := 0) rfl) rfl
          have q19 : a'.tmps[19]? = some (val 7) := hS.tmpSet 7 _ 19 rfl rfl (by simp) l7
          rw [show val 7 = .pointer (some ⟨g, o + k * 3, none⟩) from hF 7 l7 (by decide)] at q19
          refine op_valv (.pointer (some ⟨g, o + k * 3 + 1, none⟩)) W (fun _ _ => trivial) ?_ ⟨rfl, rfl⟩
          rw [Oper.semAt_plain _ _ _ (by intro c h; cases h)]
          simp [execOp, q19, go_sem]
        · cases ho
          have l8 : listed.getD 8 false = true := haf ⟨8, .data⟩ (Array.mem_of_getElem? (i := 0) rfl) rfl
          have q20 : a'.tmps[20]? = some (val 8) := hS.tmpSet 8 _ 20 rfl rfl (by simp) l8
          rw [show val 8 = .pointer (some ⟨g, o + k * 3 + 1, none⟩) from hF 8 l8 (by decide)] at q20
          obtain ⟨y0, y1, y2⟩ := HCX.out W (HWW.out W hps.1)
          refine op_valv (.string U) W (fun _ _ => trivial) ?_ ⟨rfl, rfl⟩
          rw [Oper.semAt_plain _ _ _ (by intro c h; cases h)]
          simp [execOp, q20, y1, go_sem]
        · cases ho
          have l4 : listed.getD 4 false = true := haf ⟨4, .data⟩ (Array.mem_of_getElem? (i := 0) rfl) rfl
          have q16 : a'.tmps[16]? = some (val 4) := hS.tmpSet 4 _ 16 rfl rfl (by simp) l4
          rw [show val 4 = .int .i64 kd from hF 4 l4 (by decide)] at q16
          have l9 : listed.getD 9 false = true := haf ⟨9, .data⟩ (Array.mem_of_getElem? (i := 1) rfl) rfl
          have q21 : a'.tmps[21]? = some (val 9) := hS.tmpSet 9 _ 21 rfl rfl (by simp) l9
          rw [show val 9 = .string U from hF 9 l9 (by decide)] at q21
          refine op_valv (.agg #[.int .i64 kd, .string U, .slice none 0 0]) W (fun _ _ => trivial) ?_ ⟨rfl, rfl⟩
          rw [Oper.semAt_plain _ _ _ (by intro c h; cases h)]
          simp [execOp, q16, q21, go_sem]
        · exact absurd (by decide) hic
        · exact absurd (by decide) hic
      · intro m i oo listed a' W val ho hmi haf hS hF hps
        have hmm : m < 2 := (List.getElem?_eq_some_iff.1 hmi).1
        obtain rfl | rfl : m = 0 ∨ m = 1 := by omega
        · cases hmi
          cases ho
          refine op_valv (.pointer (some ⟨W.heap.size, 0, none⟩)) (W.alloc (.cells #[.int .i64 0, .string ⟨#[]⟩, .slice none 0 0] 42)) (fun _ _ => trivial) ?_ ⟨hps.1.alloc hps.1.size _, W.heap.size, rfl, Row.new _ _ _, hps.1.size⟩
          rw [Oper.semAt_plain _ _ _ (by intro c h; cases h)]
          simp [execOp, go_sem]
        · cases hmi
          cases ho
          have l11 : listed.getD 11 false = true := haf ⟨11, .data⟩ (Array.mem_of_getElem? (i := 0) rfl) rfl
          have q5 : a'.tmps[5]? = some (val 11) := hS.tmpSet 11 _ 5 rfl rfl (by simp) l11
          have l10 : listed.getD 10 false = true := haf ⟨10, .data⟩ (Array.mem_of_getElem? (i := 1) rfl) rfl
          have q22 : a'.tmps[22]? = some (val 10) := hS.tmpSet 10 _ 22 rfl rfl (by simp) l10
          rw [show val 10 = .agg #[.int .i64 kd, .string U, .slice none 0 0] from hF 10 l10 (by decide)] at q22
          obtain ⟨hb, h, hv, hr, hB⟩ := hps
          have r1 : Row (W.setCell ⟨h, 0, none⟩ (.int .i64 kd)) h 42 #[.int .i64 kd, .string ⟨#[]⟩, .slice none 0 0] := hr.set 0 _
          have r2 : Row ((W.setCell ⟨h, 0, none⟩ (.int .i64 kd)).setCell ⟨h, 1, none⟩ (.string U)) h 42 #[.int .i64 kd, .string U, .slice none 0 0] := r1.set 1 _
          obtain ⟨x0, _, _, f0, _, _⟩ := node_cells hr
          obtain ⟨_, x1, _, _, f1, _⟩ := node_cells r1
          obtain ⟨_, _, x2, _, _, f2⟩ := node_cells r2
          rw [hv] at q5
          refine op_skipv _ (fun _ _ => trivial) ?_ ⟨((hb.setCell (p := ⟨h, 0, none⟩) hB _).setCell (p := ⟨h, 1, none⟩) hB _).setCell (p := ⟨h, 2, none⟩) hB _, h, hv, r2.set 2 (.slice none 0 0), hB⟩
          rw [Oper.semAt_plain _ _ _ (by intro c h; cases h)]
          simp [execOp, q5, q22, x0, x1, x2, f0, f1, f2, go_sem]
      · intro W5 val hps hF
        obtain ⟨hb5, h, hv, hr5, hB⟩ := hps
        have HB5 := Lib.hid hb5
        have HR5 := Lib.hid hr5
        simp only [finAct, List.getElem?_toArray, List.getElem?_cons_zero, List.getElem?_cons_succ, Act.put, List.setIfInBounds_toArray, List.set_cons_zero, List.set_cons_succ, List.size_toArray, List.length_cons, List.length_nil, Nat.reduceAdd]
        rw [hv]
        clear hb5 hr5 hF hv
        gi_wp2
        refine wpIn_region_chainC (by kernel_rfl) (by kernel_rfl) [7, 9] (by kernel_rfl) (by decide) (by decide) (fun j v => v = [(.pointer (some ⟨h, 2, none⟩) : Value), .slice none 0 0, .slice (some ⟨g, o, none⟩) n c0, .int .i64 (k : Int), .pointer (some ⟨g, o + k * 3, none⟩), .pointer (some ⟨g, o + k * 3 + 2, none⟩), .slice ka K kc, undef, .pointer (some ⟨h, 2, none⟩), undef].getD j undef) (PA wo.heap.size wo h 7 kd U (.slice none 0 0) x.kids) ?_ ?_ ?_ ?_ ?_
        · intro val
          exact ⟨HB5.out.drew, HR5.out.drew⟩
        · intro ph val val' W hval hps
          refine ⟨hps.1, ?_⟩
          rcases ph with _ | _ | ph
          · exact hps.2
          · obtain ⟨h1, h2⟩ := hps.2
            refine ⟨h1, ?_⟩
            rw [← hval 0 7 (by omega) rfl]
            exact h2
          · exact hps.2
        · intro i oo listed a' W val ph ho hic haf hS hF hbk hlm hps
          have hii : i < 10 := (Array.getElem?_eq_some_iff.1 ho).1
          obtain rfl | rfl | rfl | rfl | rfl | rfl | rfl | rfl | rfl | rfl : i = 0 ∨ i = 1 ∨ i = 2 ∨ i = 3 ∨ i = 4 ∨ i = 5 ∨ i = 6 ∨ i = 7 ∨ i = 8 ∨ i = 9 := by omega
          · cases ho
            have q5 : a'.tmps[5]? = some (.pointer (some ⟨h, 0, none⟩)) := (hS.tmpBase 5 (by kernel_rfl)).trans rfl
            refine op_valv (.pointer (some ⟨h, 2, none⟩)) W (fun _ _ => trivial) ?_ ⟨rfl, rfl⟩
            rw [Oper.semAt_plain _ _ _ (by intro c h; cases h)]
            simp [execOp, q5, go_sem]
          · cases ho
            have l0 : listed.getD 0 false = true := haf ⟨0, .data⟩ (Array.mem_of_getElem? (i := 0) rfl) rfl
            have q23 : a'.tmps[23]? = some (val 0) := hS.tmpSet 0 _ 23 rfl rfl (by simp) l0
            rw [show val 0 = .pointer (some ⟨h, 2, none⟩) from hF 0 l0 (by decide)] at q23
            obtain rfl : ph = 0 := by have := hbk 0 7 rfl (by kernel_rfl); omega
            have z2 := hps.2.cell 2
            simp only [List.getElem?_toArray, List.getElem?_cons_zero, List.getElem?_cons_succ] at z2
            refine op_valv (.slice none 0 0) W (fun _ _ => trivial) ?_ ⟨rfl, rfl⟩
            rw [Oper.semAt_plain _ _ _ (by intro c h; cases h)]
            simp [execOp, q23, z2, go_sem]
          · cases ho
            have q0 : a'.tmps[0]? = some (.slice (some ⟨g, o, none⟩) n c0) := (hS.tmpBase 0 (by kernel_rfl)).trans rfl
            refine op_valv (.slice (some ⟨g, o, none⟩) n c0) W (fun _ _ => trivial) ?_ ⟨rfl, rfl⟩
            rw [Oper.semAt_plain _ _ _ (by intro c h; cases h)]
            simp [execOp, q0, go_sem]
          · cases ho
            have q4 : a'.tmps[4]? = some (.int .i64 (k : Int)) := (hS.tmpBase 4 (by kernel_rfl)).trans rfl
            refine op_valv (.int .i64 (k : Int)) W (fun _ _ => trivial) ?_ ⟨rfl, rfl⟩
            rw [Oper.semAt_plain _ _ _ (by intro c h; cases h)]
            simp [execOp, q4, go_sem]
          · cases ho
            have l2 : listed.getD 2 false = true := haf ⟨2, .data⟩ (Array.mem_of_getElem? (i := 0) rfl) rfl
            have q25 : a'.tmps[25]? = some (val 2) := hS.tmpSet 2 _ 25 rfl rfl (by simp) l2
            rw [show val 2 = .slice (some ⟨g, o, none⟩) n c0 from hF 2 l2 (by decide)] at q25
            have l3 : listed.getD 3 false = true := haf ⟨3, .data⟩ (Array.mem_of_getElem? (i := 1) rfl) rfl
            have q26 : a'.tmps[26]? = some (val 3) := hS.tmpSet 3 _ 26 rfl rfl (by simp) l3
            rw [show val 3 = .int .i64 (k : Int) from hF 3 l3 (by decide)] at q26
            refine op_valv (.pointer (some ⟨g, o + k * 3, none⟩)) W (fun _ _ => trivial) ?_ ⟨rfl, rfl⟩
            rw [Oper.semAt_plain _ _ _ (by intro c h; cases h)]
            simp [execOp, q25, q26, hkn, go_sem]
          · cases ho
            have l4 : listed.getD 4 false = true := haf ⟨4, .data⟩ (Array.mem_of_getElem? (i := 0) rfl) rfl
            have q27 : a'.tmps[27]? = some (val 4) := hS.tmpSet 4 _ 27 rfl rfl (by simp) l4
            rw [show val 4 = .pointer (some ⟨g, o + k * 3, none⟩) from hF 4 l4 (by decide)] at q27
            refine op_valv (.pointer (some ⟨g, o + k * 3 + 2, none⟩)) W (fun _ _ => trivial) ?_ ⟨rfl, rfl⟩
            rw [Oper.semAt_plain _ _ _ (by intro c h; cases h)]
            simp [execOp, q27, go_sem]
          · cases ho
            have l5 : listed.getD 5 false = true := haf ⟨5, .data⟩ (Array.mem_of_getElem? (i := 0) rfl) rfl
            have q28 : a'.tmps[28]? = some (val 5) := hS.tmpSet 5 _ 28 rfl rfl (by simp) l5
            rw [show val 5 = .pointer (some ⟨g, o + k * 3 + 2, none⟩) from hF 5 l5 (by decide)] at q28
            obtain ⟨y0, y1, y2⟩ := HCX.out W (HWW.out W hps.1)
            refine op_valv (.slice ka K kc) W (fun _ _ => trivial) ?_ ⟨rfl, rfl⟩
            rw [Oper.semAt_plain _ _ _ (by intro c h; cases h)]
            simp [execOp, q28, y2, go_sem]
          · exact absurd (by decide) hic
          · cases ho
            have q5 : a'.tmps[5]? = some (.pointer (some ⟨h, 0, none⟩)) := (hS.tmpBase 5 (by kernel_rfl)).trans rfl
            refine op_valv (.pointer (some ⟨h, 2, none⟩)) W (fun _ _ => trivial) ?_ ⟨rfl, rfl⟩
            rw [Oper.semAt_plain _ _ _ (by intro c h; cases h)]
            simp [execOp, q5, go_sem]
          · exact absurd (by decide) hic
        · intro m i oo listed a' W val ho hmi haf hS hF hps
          have hmm : m < 2 := (List.getElem?_eq_some_iff.1 hmi).1
          obtain rfl | rfl : m = 0 ∨ m = 1 := by omega
          · cases hmi
            cases ho
            have l1 : listed.getD 1 false = true := haf ⟨1, .data⟩ (Array.mem_of_getElem? (i := 0) rfl) rfl
            have q24 : a'.tmps[24]? = some (val 1) := hS.tmpSet 1 _ 24 rfl rfl (by simp) l1
            rw [show val 1 = .slice none 0 0 from hF 1 l1 (by decide)] at q24
            have l6 : listed.getD 6 false = true := haf ⟨6, .data⟩ (Array.mem_of_getElem? (i := 1) rfl) rfl
            have q29 : a'.tmps[29]? = some (val 6) := hS.tmpSet 6 _ 29 rfl rfl (by simp) l6
            rw [show val 6 = .slice ka K kc from hF 6 l6 (by decide)] at q29
            obtain ⟨v5, w5, hrun, ho, hg⟩ := run_append_kl (W := W) (base := wo.heap.size) (ty := 40) (IOwn.nil W _) (HKT.out W (HWW.out W hps.1)) (by simp only [List.length_nil]; have := HKL.out; omega) hps.1.size
            rw [List.nil_append] at ho
            refine op_valv v5 w5 (fun _ _ => trivial) ?_ ⟨below_grown2 hps.1 hps.1.size hg (fun g e => by cases e), row_grown hps.2 hg (by intro e; cases e), ho⟩
            have e1 : a'.eval (.tmp 24) = .slice none 0 0 := by simp [q24, go_sem]
            have e2 : a'.eval (.tmp 29) = .slice ka K kc := by simp [q29, go_sem]
            rw [Oper.semAt_plain _ _ _ (by intro c h; cases h)]
            simp [execOp, resolve, invoke, builtin, e1, e2, hrun, Result.andThen]
          · cases hmi
            cases ho
            have l8 : listed.getD 8 false = true := haf ⟨8, .data⟩ (Array.mem_of_getElem? (i := 0) rfl) rfl
            have q31 : a'.tmps[31]? = some (val 8) := hS.tmpSet 8 _ 31 rfl rfl (by simp) l8
            rw [show val 8 = .pointer (some ⟨h, 2, none⟩) from hF 8 l8 (by decide)] at q31
            have l7 : listed.getD 7 false = true := haf ⟨7, .data⟩ (Array.mem_of_getElem? (i := 1) rfl) rfl
            have q30 : a'.tmps[30]? = some (val 7) := hS.tmpSet 7 _ 30 rfl rfl (by simp) l7
            obtain ⟨hb, hr, ho⟩ := hps
            obtain ⟨v5, hv5⟩ : ∃ v5, v5 = val 7 := ⟨_, rfl⟩
            rw [← hv5] at ho q30
            obtain ⟨a5, c5, rfl⟩ := own_form ho
            have z2 := hr.cell 2
            have f2 := hr.frozen 2
            simp only [List.getElem?_toArray, List.getElem?_cons_zero, List.getElem?_cons_succ] at z2
            refine op_skipv (W.setCell ⟨h, 2, none⟩ (.slice a5 x.kids.length c5)) (fun _ _ => trivial) ?_ ⟨hb.setCell (p := ⟨h, 2, none⟩) hB _, _, hr.set 2 _, World.ownsRow.kept ho (grown_set _ _ _ _) (.inr (fun e => own_off ho hr (by decide) e))⟩
            rw [Oper.semAt_plain _ _ _ (by intro c h; cases h)]
            simp [execOp, q31, q30, z2, f2, go_sem]
        · intro W6 val6 hps6 hF6
          obtain ⟨hb6, q, hr6, ho6⟩ := hps6
          obtain ⟨qa, qc, rfl⟩ := own_form ho6
          rw [HQL.out] at hr6
          obtain ⟨z0, z1, z2, _, _, _⟩ := node_cells hr6
          have HB6 := Lib.hid hb6
          have HO6 : Hid (IOwn W6 wo.heap.size (.slice qa K qc) x.kids) := Lib.hid (by rw [← HQL.out]; exact ho6)
          simp only [finAct, List.getElem?_toArray, List.getElem?_cons_zero, List.getElem?_cons_succ, Act.put, List.setIfInBounds_toArray, List.set_cons_zero, List.set_cons_succ, List.size_toArray, List.length_cons, List.length_nil, Nat.reduceAdd]
          clear hb6 hr6 ho6 hF6
          have hLl : L.length = k := by
            have := congrArg List.length HL.out
            rw [List.length_map, List.length_map, List.length_take, ← HN.out] at this
            omega
          have HON := Lib.hid ((HO.out.below HB6.out).row)
          have H1 : Hid (∀ (j : Nat) (u : Value), [Value.int .i64 kd, .string U, .slice qa K qc][j]? = some u → (W6.alloc (.cells #[.int .i64 kd, .string U, .slice qa K qc] 42)).cell? ((⟨W6.heap.size, 0, none⟩ : Addr).add j) = some u) := Lib.hid (World.news_of_block (World.alloc_heap_new W6 (.cells #[.int .i64 kd, .string U, .slice qa K qc] 42)))
          have H5 : Hid (w.heap.size ≤ (W6.alloc (.cells #[.int .i64 kd, .string U, .slice qa K qc] 42)).heap.size) := Lib.hid (by rw [World.size_alloc]; have := HB6.out.size; omega)
          have H4 : Hid (L.length + 1 ≤ maxLen ∧ (L.length + 1) * 48 ≤ 140737488355328) := Lib.hid ⟨by unfold maxLen; omega, by omega⟩
          have HLL := Lib.hid hLl
          clear hLl
          gi_wp2_with (gi_at_builtin; refine wpListIn_append_own _ rfl (.tmp 32) (.tmp 34) 22 rfl w.heap.size 42 i2 (.agg #[.int .i64 0, .string ⟨#[]⟩, .slice none 0 0]) 3 48 Tryd.underlying22 hj hy0 hy1 hy2 rfl (by decide) u3 L.length (cellsN L) rfl (HON.out.alloc _) ⟨W6.heap.size, 0, none⟩ 1 1 [.int .i64 kd, .string U, .slice qa K qc] rfl rfl H1.out (by simp [Value.oneCell']) H4.out.1 H4.out.2 H5.out ?_; intro v7 w7 ho7 hg7 _; have HO7 := Lib.hid ho7; have HG7 := Lib.hid hg7; clear ho7 hg7)
          go_roundw
          case rel =>
            have hb7 := HB6.out.alloc HB6.out.size (.cells #[.int .i64 kd, .string U, .slice qa K qc] 42)
            have ho6 := own_kept HO6.out ((Below.refl _ W6).alloc (Nat.le_refl _) (.cells #[.int .i64 kd, .string U, .slice qa K qc] 42))
            have hO6 := HO.out.below hb7
            refine ⟨k + 1, L ++ [(id x, .slice qa K qc)], by omega, by omega, by go_num, hO6.grow HG7.out ?_ ?_, ?_, ?_⟩
            · rw [List.length_append, cellsN_snoc, HNOD.out]
              exact HO7.out
            · intro p hp
              obtain rfl := List.mem_singleton.1 hp
              exact own_mono ho6 hbs
            · rw [List.map_append, HL.out, List.take_add_one, HX.out, List.map_append]
              rfl
            · exact below_grown2 (HWW.out _ hb7) (HWW.out _ hb7).size HG7.out (fun j e => (HON.out.lt j e).1)
          case measure => simp [intOf]; omega
    · have HE : Hid (L.map (·.1) = T) := Lib.hid (by
        rw [HL.out, List.map_id]
        rw [List.take_of_length_le (by rw [← HN.out]; omega)])
      obtain rfl : k = n := by omega
      clear hB hlt
      gi_wp2
      refine bodyPost_ret (v := u3) (by simp [results, Tryd.f27, go_sem]) rfl ⟨HB.out, u3, L, rfl, HO.out, HE.out⟩
end Go.Proofs.YtbegplfijjbpcaaDoor.No
