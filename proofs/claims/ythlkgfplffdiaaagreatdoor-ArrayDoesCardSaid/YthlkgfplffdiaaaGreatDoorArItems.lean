/- The iterator of a pair's items (by wip/gen/mkaritems.py). -/
import Derived.Test.YthlkgfplffdiaaaGreatDoorArA
import Derived.Test.YthlkgfplffdiaaaGreatDoorRgA
import Derived.RangeFuncNested
import Derived.RangeFuncBound
import Derived.RangeFuncCalls
import Derived.RangeFuncLeaves
import Derived.Shelf.Abstract
import Derived.Shelf.RegionOpen
import Derived.WalkKit
import Derived.OwnWalkIn
import Derived.TacticsInMore
import Derived.LoopNIn
import Derived.LoopIn
import Derived.Outline
namespace Go.Proofs.YthlkgfplffdiaaaGreatDoor.Ar
open Go Go.RowKit Go.Shelf
attribute [local go_sem] Oper.semAt_some

/-- What a pair's iterator yields. -/
def pairsA (a b : Ary) : List (Int × Int) := (List.range (lenP a b)).map fun i => (itemA a i, itemA b i)
theorem pairs_len (a b : Ary) : (pairsA a b).length = lenP a b := by simp [pairsA]
theorem pairs_at {a b : Ary} {k : Nat} (h : k < lenP a b) : (pairsA a b)[k]? = some (itemA a k, itemA b k) := by simp [pairsA, h]
/-- A pair in memory. -/
structure PairAt (W : World) (Bp : Nat) (a b : Ary) (s t : Value) : Prop where
  row : Row W Bp 57 #[.bool a.list, .bool a.runes, s, .bool b.list, .bool b.runes, t]
  left : KL W s a.n
  right : KL W t b.n
/-- They can be gone through. -/
structure Fits (a b : Ary) : Prop where
  one : a.list = false → a.n.length = 1
  two : b.list = false → b.n.length = 1
  both : a.list = true → b.list = true → a.n.length = b.n.length
theorem Fits.left {a b : Ary} (h : Fits a b) {k : Nat} (hk : k < lenP a b) : if a.list then k < a.n.length else 0 < a.n.length := by
  obtain ⟨L, R, N⟩ := a
  obtain ⟨h1, h2, h3⟩ := h
  unfold lenP at hk
  cases L <;> simp_all
theorem Fits.right {a b : Ary} (h : Fits a b) {k : Nat} (hk : k < lenP a b) : if b.list then k < b.n.length else 0 < b.n.length := by
  obtain ⟨L, R, N⟩ := a
  obtain ⟨L2, R2, N2⟩ := b
  obtain ⟨h1, h2, h3⟩ := h
  unfold lenP at hk
  cases L <;> cases L2 <;> simp_all
def encP (x : Int × Int) : Array Value := #[.int .i64 x.1, .int .i64 x.2]
section
variable {F : Fence} {n : Nat} {P : Program}
theorem op_yieldv {o : Oper} {a : Act} {w : World} {Q : Exit → Act → World → Prop} {K : Value → World → Prop} (l : Nat) (args : Array Value) (hrun : ∀ l' fn tmps assign body, (Instr.yield l args).run P w = .ok (.round l' fn tmps assign body) w → (o.semAt F.round a.eval).run P w = .ok (.round l' fn tmps assign body) w) (hab : ∀ f, o.about P w a.eval = some f → F.fn f) (hn : 1 ≤ n) (hc : YieldAt F (n - 1) P l args w fun e w' => ∃ v, e = .returned v ∧ K v w') : o.wpIn F n P a w (fun a'' W'' => ∃ v, a'' = a.put o.dst v ∧ K v W'') Q := by
  obtain ⟨fn, tmps, assign, body, hy, hr⟩ := hc
  refine ⟨hab, ?_⟩
  rw [hrun _ _ _ _ _ hy, Oper.uponIn_round]
  refine ⟨fun _ => hn, hr.mono ?_⟩
  rintro e w' ⟨v, rfl, hk⟩
  exact ⟨v, rfl, hk⟩
end

/-- How far a round is. -/
def PhI (Kp : World → World → Prop) (J Jx : List (Int × Int) → World → Prop) (w : World) (n₀ : Nat) (L L2 : List (Int × Int)) (x y : Int) (ph : Nat) (v4 v8 v9 v10 : Value) (W : World) : Prop := match ph with
  | 0 => Kp w W ∧ J L W ∧ n₀ ≤ W.heap.size
  | 1 => Kp w W ∧ J L W ∧ n₀ ≤ W.heap.size ∧ v4 = .int .i64 x
  | 2 => Kp w W ∧ J L W ∧ n₀ ≤ W.heap.size ∧ v4 = .int .i64 x ∧ v8 = .int .i64 y
  | 3 => (v9 = .bool true ∧ J L2 W ∧ Kp w W ∧ n₀ ≤ W.heap.size) ∨ (v9 = .bool false ∧ Jx L2 W)
  | _ => (v10 = .bool false ∧ J L2 W ∧ Kp w W ∧ n₀ ≤ W.heap.size) ∨ (v10 = .bool true ∧ Jx L2 W)
set_option maxRecDepth 100000 in
set_option maxHeartbeats 4000000 in
theorem items_stops (m : Nat) (hm : 5 ≤ m) (Kp : World → World → Prop) (hKB : ∀ A B : World, Below A.heap.size A B → Kp A B) (hKt : ∀ {A B C : World}, Kp A B → Kp B C → Kp A C) (hKs : ∀ A B : World, Kp A B → A.heap.size ≤ B.heap.size) (Bp : Nat) (a b : Ary) (s t : Value) (w : World) (hp : ∀ W, Kp w W → PairAt W Bp a b s t) (hf : Fits a b) :
    SeqStopsW Fence.wide m Tryz.prog 101 #[.pointer (some ⟨Bp, 0, none⟩)] encP Kp (fun xs => xs = pairsA a b) (fun _ => True) (fun pre x _ => ∃ rest, pairsA a b = pre ++ x :: rest) w := by
  intro l J Jx W hW hJb hJxb hY h0
  have hp0 := hp W (hKB _ _ hW)
  obtain ⟨sa, sc, hsf, hs1, hs2⟩ := hp0.left.form
  obtain ⟨ta, tc, htf, ht1, ht2⟩ := hp0.right.form
  obtain ⟨sn, hsn⟩ : ∃ sn, sn = a.n.length := ⟨_, rfl⟩
  obtain ⟨tn, htn⟩ : ∃ tn, tn = b.n.length := ⟨_, rfl⟩
  rw [← hsn] at hsf
  rw [← htn] at htf
  subst hsf htf
  have HLN := Lib.hid (fun W (h : PairAt W Bp a b (.slice sa sn sc) (.slice ta tn tc)) => length_c a b _ _ W h.left h.right)
  have HP := Lib.hid hp
  have HF := Lib.hid hf
  have HPL := Lib.hid (pairs_len a b)
  have HPA := Lib.hid (fun k (h : k < lenP a b) => pairs_at h)
  have hlp : lenP a b ≤ 9223372036854775807 := by
    unfold maxLen at hs2 ht2
    unfold lenP
    split <;> omega
  obtain ⟨N, hN⟩ : ∃ N, N = lenP a b := ⟨_, rfl⟩
  have HN := Lib.hid hN
  rw [← hN] at hlp
  have HI := Lib.hid (fun (k : Nat) (h : k < lenP a b) W (hq : PairAt W Bp a b (.slice sa sn sc) (.slice ta tn tc)) => And.intro (item_c a k _ W hq.left (hf.left h)) (item_c b k _ W hq.right (hf.right h)))
  have HK0 := Lib.hid (hKB _ _ hW)
  obtain ⟨aL, haL⟩ : ∃ x, x = a.list := ⟨_, rfl⟩
  obtain ⟨aR, haR⟩ : ∃ x, x = a.runes := ⟨_, rfl⟩
  obtain ⟨bL, hbL⟩ : ∃ x, x = b.list := ⟨_, rfl⟩
  obtain ⟨bR, hbR⟩ : ∃ x, x = b.runes := ⟨_, rfl⟩
  have HC : Hid (∀ W', Kp w W' → W'.cell? ⟨Bp, 0, none⟩ = some (.bool aL) ∧ W'.cell? ⟨Bp, 1, none⟩ = some (.bool aR) ∧ W'.cell? ⟨Bp, 2, none⟩ = some (.slice sa sn sc) ∧ W'.cell? ⟨Bp, 3, none⟩ = some (.bool bL) ∧ W'.cell? ⟨Bp, 4, none⟩ = some (.bool bR) ∧ W'.cell? ⟨Bp, 5, none⟩ = some (.slice ta tn tc)) := Lib.hid (fun W' h => by
    have r := (hp W' h).row
    have c0 := r.cell 0
    have c1 := r.cell 1
    have c2 := r.cell 2
    have c3 := r.cell 3
    have c4 := r.cell 4
    have c5 := r.cell 5
    simp at c0 c1 c2 c3 c4 c5
    rw [haL, haR, hbL, hbR]
    exact ⟨c0, c1, c2, c3, c4, c5⟩)
  have HV : Hid (∀ s t, pairV a b s t = .agg #[.bool aL, .bool aR, s, .bool bL, .bool bR, t]) := Lib.hid (fun s t => by rw [haL, haR, hbL, hbR])
  have HVA : Hid ((∀ s, aryV a s = .agg #[.bool aL, .bool aR, s]) ∧ ∀ s, aryV b s = .agg #[.bool bL, .bool bR, s]) := Lib.hid ⟨fun s => by rw [haL, haR], fun s => by rw [hbL, hbR]⟩
  have hlen := HLN.out W hp0
  rw [HV.out] at hlen
  have HLEN := Lib.hid hlen
  obtain ⟨c0, c1, c2, c3, c4, c5⟩ := HC.out W HK0.out
  have H0 := Lib.hid h0
  clear hp hf hW hp0 hs1 hs2 ht1 ht2 hsn htn haL haR hbL hbR hlen h0 HLN hN
  rw [← HN.out] at HPL HPA HLEN HI
  obtain ⟨PL, hPL⟩ : ∃ PL, PL = pairsA a b := ⟨_, rfl⟩
  have HPP := Lib.hid hPL
  rw [← hPL] at hY HPL HPA ⊢
  clear hPL
  refine callsIn_of_wp Tryz.func101 rfl trivial ?_ rfl
  simp only [Tryz.ntmps101, List.size_toArray, List.length_cons, List.length_nil, Nat.reduceAdd, Nat.reduceSub, Array.replicate_succ, Array.replicate_zero, List.push_toArray, List.append_toArray, List.nil_append, List.cons_append]
  gi_wp2_with (refine ⟨trivial, fun _ => by omega, ?_⟩; gi_at_call 62; refine (callsIn_wide.2 HLEN.out).mono ?_; rintro e w1 ⟨rfl, hw1⟩; have HW1 := Lib.hid hw1; clear hw1)
  have HKW1 : Hid (Kp w w1) := Lib.hid (hKt HK0.out (by rw [HW1.out]; exact hKB _ _ ((Below.refl _ _).alloc (Nat.le_refl _) _)))
  have HJ1 : Hid (J [] w1) := Lib.hid (by rw [HW1.out]; exact hJb _ _ _ H0.out ((Below.refl _ _).alloc (Nat.le_refl _) _))
  have HS1 : Hid (W.heap.size ≤ w1.heap.size) := Lib.hid (by rw [HW1.out]; simp)
  clear HW1 c0 c1 c2 c3 c4 c5
  gi_loopw [6] (fun i wr => ∃ k : Nat, k ≤ N ∧ i = .int .i64 (k : Int) ∧ J (PL.take k) wr ∧ Kp w wr ∧ W.heap.size ≤ wr.heap.size) (fun i _ => N - (intOf i).toNat)
  case atStart => exact ⟨0, Nat.zero_le _, rfl, HJ1.out, HKW1.out, HS1.out⟩
  case round =>
    obtain ⟨k, hk, rfl, hJs, hkp, hsz⟩ := hrel
    by_cases hlt : k < N
    · have hx := HPA.out k hlt
      have hyy : ∀ W1, J (PL.take k) W1 → W.heap.size ≤ W1.heap.size → YieldAt Fence.wide (m - 1) Tryz.prog l (encP (itemA a k, itemA b k)) W1 fun e W' => (e = .returned (.bool true) ∧ J (PL.take (k + 1)) W' ∧ Kp W1 W') ∨ (e = .returned (.bool false) ∧ Jx (PL.take (k + 1)) W') := fun W1 h1 h2 => by
        have e : PL.take (k + 1) = PL.take k ++ [(itemA a k, itemA b k)] := by rw [List.take_add_one, hx]; rfl
        rw [e]
        exact hY _ _ W1 h1 ⟨PL.drop (k + 1), by
          have h3 : k < PL.length := by rw [HPL.out]; exact hlt
          have h4 : PL[k] = (itemA a k, itemA b k) := by rw [List.getElem?_eq_getElem h3] at hx; exact Option.some.inj hx
          rw [← h4]
          simp⟩ h2
      have HYY := Lib.hid hyy
      have HIA := Lib.hid (fun W2 (h : Kp w W2) => (HI.out k hlt W2 (HP.out W2 h)).1)
      have HIB := Lib.hid (fun W2 (h : Kp w W2) => (HI.out k hlt W2 (HP.out W2 h)).2)
      rw [HVA.out.1] at HIA
      rw [HVA.out.2] at HIB
      obtain ⟨x, hxx⟩ : ∃ x, x = itemA a k := ⟨_, rfl⟩
      obtain ⟨y, hyx⟩ : ∃ y, y = itemA b k := ⟨_, rfl⟩
      rw [← hxx] at HIA HYY
      rw [← hyx] at HIB HYY
      have HJS := Lib.hid hJs
      have HKP := Lib.hid hkp
      have HSZ := Lib.hid hsz
      clear hx hyy hJs hkp hsz hxx hyx
      gi_wp2
      refine wpIn_region_chainC (by kernel_rfl) (by kernel_rfl) [4, 8, 9, 10] (by kernel_rfl) (by decide) (by decide) (fun pj pv => pv = [(.func (.yield l) #[] #[] : Value), .pointer (some ⟨Bp, 0, none⟩), .agg #[.bool aL, .bool aR, .slice sa sn sc], .int .i64 (k : Int), undef, .pointer (some ⟨Bp, 3, none⟩), .agg #[.bool bL, .bool bR, .slice ta tn tc], .int .i64 (k : Int), undef, undef, undef].getD pj undef) (fun ph v W2 => PhI Kp J Jx w W.heap.size (PL.take k) (PL.take (k + 1)) x y ph (v 4) (v 8) (v 9) (v 10) W2) ?_ ?_ ?_ ?_ ?_
      · intro val
        have hd := Below.drew (Below.refl wr.heap.size wr)
        exact ⟨hKt HKP.out (hKB _ _ hd), hJb _ _ _ HJS.out hd, HSZ.out⟩
      · intro ph val val' W hval hps
        have f4 : 1 ≤ ph → val 4 = val' 4 := fun h => hval 0 4 (by omega) rfl
        have f8 : 2 ≤ ph → val 8 = val' 8 := fun h => hval 1 8 (by omega) rfl
        have f9 : 3 ≤ ph → val 9 = val' 9 := fun h => hval 2 9 (by omega) rfl
        have f10 : 4 ≤ ph → val 10 = val' 10 := fun h => hval 3 10 (by omega) rfl
        rcases ph with _ | _ | _ | _ | ph
        · exact hps
        · exact ⟨hps.1, hps.2.1, hps.2.2.1, (f4 (by omega)).symm.trans hps.2.2.2⟩
        · exact ⟨hps.1, hps.2.1, hps.2.2.1, (f4 (by omega)).symm.trans hps.2.2.2.1, (f8 (by omega)).symm.trans hps.2.2.2.2⟩
        · rcases hps with ⟨h1, h2⟩ | ⟨h1, h2⟩
          · exact .inl ⟨(f9 (by omega)).symm.trans h1, h2⟩
          · exact .inr ⟨(f9 (by omega)).symm.trans h1, h2⟩
        · rcases hps with ⟨h1, h2⟩ | ⟨h1, h2⟩
          · exact .inl ⟨(f10 (by omega)).symm.trans h1, h2⟩
          · exact .inr ⟨(f10 (by omega)).symm.trans h1, h2⟩
      · intro i oo listed a' W val ph ho hic haf hS hF hbk hlm hps
        have hii : i < 11 := (Array.getElem?_eq_some_iff.1 ho).1
        obtain rfl | rfl | rfl | rfl | rfl | rfl | rfl | rfl | rfl | rfl | rfl : i = 0 ∨ i = 1 ∨ i = 2 ∨ i = 3 ∨ i = 4 ∨ i = 5 ∨ i = 6 ∨ i = 7 ∨ i = 8 ∨ i = 9 ∨ i = 10 := by omega
        · cases ho
          have q0 : a'.tmps[0]? = some (.func (.yield l) #[] #[]) := (hS.tmpBase 0 (by kernel_rfl)).trans rfl
          refine op_valv (.func (.yield l) #[] #[]) W (fun _ _ => trivial) ?_ ⟨rfl, rfl⟩
          rw [Oper.semAt_plain _ _ _ (by intro c h; cases h)]
          simp [execOp, q0, go_sem]
        · cases ho
          have q1 : a'.tmps[1]? = some (.pointer (some ⟨Bp, 0, none⟩)) := (hS.tmpBase 1 (by kernel_rfl)).trans rfl
          refine op_valv (.pointer (some ⟨Bp, 0, none⟩)) W (fun _ _ => trivial) ?_ ⟨rfl, rfl⟩
          rw [Oper.semAt_plain _ _ _ (by intro c h; cases h)]
          simp [execOp, q1, go_sem]
        · cases ho
          have l1 : listed.getD 1 false = true := haf ⟨1, .data⟩ (Array.mem_of_getElem? (i := 0) rfl) rfl
          have q10 : a'.tmps[10]? = some (val 1) := hS.tmpSet 1 _ 10 rfl rfl (by simp) l1
          rw [show val 1 = .pointer (some ⟨Bp, 0, none⟩) from hF 1 l1 (by decide)] at q10
          have hph : ph ≤ 0 := hbk 0 4 rfl (by kernel_rfl)
          obtain rfl : ph = 0 := by omega
          obtain ⟨z0, z1, z2, z3, z4, z5⟩ := HC.out W hps.1
          refine op_valv (.agg #[.bool aL, .bool aR, .slice sa sn sc]) W (fun _ _ => trivial) ?_ ⟨rfl, rfl⟩
          rw [Oper.semAt_plain _ _ _ (by intro c h; cases h)]
          simp [execOp, q10, z0, z1, z2, go_sem]
        · cases ho
          have q3 : a'.tmps[3]? = some (.int .i64 (k : Int)) := (hS.tmpBase 3 (by kernel_rfl)).trans rfl
          refine op_valv (.int .i64 (k : Int)) W (fun _ _ => trivial) ?_ ⟨rfl, rfl⟩
          rw [Oper.semAt_plain _ _ _ (by intro c h; cases h)]
          simp [execOp, q3, go_sem]
        · exact absurd (by decide) hic
        · cases ho
          have q1 : a'.tmps[1]? = some (.pointer (some ⟨Bp, 0, none⟩)) := (hS.tmpBase 1 (by kernel_rfl)).trans rfl
          refine op_valv (.pointer (some ⟨Bp, 3, none⟩)) W (fun _ _ => trivial) ?_ ⟨rfl, rfl⟩
          rw [Oper.semAt_plain _ _ _ (by intro c h; cases h)]
          simp [execOp, q1, go_sem]
        · cases ho
          have l5 : listed.getD 5 false = true := haf ⟨5, .data⟩ (Array.mem_of_getElem? (i := 0) rfl) rfl
          have q14 : a'.tmps[14]? = some (val 5) := hS.tmpSet 5 _ 14 rfl rfl (by simp) l5
          rw [show val 5 = .pointer (some ⟨Bp, 3, none⟩) from hF 5 l5 (by decide)] at q14
          have hph : ph ≤ 1 := hbk 1 8 rfl (by kernel_rfl)
          have hk1 : Kp w W := by
            obtain rfl | rfl : ph = 0 ∨ ph = 1 := by omega
            · exact hps.1
            · exact hps.1
          obtain ⟨z0, z1, z2, z3, z4, z5⟩ := HC.out W hk1
          refine op_valv (.agg #[.bool bL, .bool bR, .slice ta tn tc]) W (fun _ _ => trivial) ?_ ⟨rfl, rfl⟩
          rw [Oper.semAt_plain _ _ _ (by intro c h; cases h)]
          simp [execOp, q14, z3, z4, z5, go_sem]
        · cases ho
          have q3 : a'.tmps[3]? = some (.int .i64 (k : Int)) := (hS.tmpBase 3 (by kernel_rfl)).trans rfl
          refine op_valv (.int .i64 (k : Int)) W (fun _ _ => trivial) ?_ ⟨rfl, rfl⟩
          rw [Oper.semAt_plain _ _ _ (by intro c h; cases h)]
          simp [execOp, q3, go_sem]
        · exact absurd (by decide) hic
        · exact absurd (by decide) hic
        · exact absurd (by decide) hic
      · intro m i oo listed a' W val ho hmi haf hS hF hps
        have hmm : m < 4 := (List.getElem?_eq_some_iff.1 hmi).1
        obtain rfl | rfl | rfl | rfl : m = 0 ∨ m = 1 ∨ m = 2 ∨ m = 3 := by omega
        · cases hmi
          cases ho
          have l2 : listed.getD 2 false = true := haf ⟨2, .data⟩ (Array.mem_of_getElem? (i := 0) rfl) rfl
          have q11 : a'.tmps[11]? = some (val 2) := hS.tmpSet 2 _ 11 rfl rfl (by simp) l2
          rw [show val 2 = .agg #[.bool aL, .bool aR, .slice sa sn sc] from hF 2 l2 (by decide)] at q11
          have l3 : listed.getD 3 false = true := haf ⟨3, .data⟩ (Array.mem_of_getElem? (i := 1) rfl) rfl
          have q12 : a'.tmps[12]? = some (val 3) := hS.tmpSet 3 _ 12 rfl rfl (by simp) l3
          rw [show val 3 = .int .i64 (k : Int) from hF 3 l3 (by decide)] at q12
          refine op_callv 102 #[.agg #[.bool aL, .bool aR, .slice sa sn sc], .int .i64 (k : Int)] (fun _ _ => trivial) ?_ (by omega) ((callsIn_wide.2 (HIA.out W hps.1)).mono ?_)
          · rw [Oper.semAt_plain _ _ _ (by intro c h; cases h)]
            simp [execOp, q11, q12, go_sem]
          · rintro e W2 ⟨rfl, rfl⟩
            exact ⟨_, rfl, hKt hps.1 (hKB _ _ ((Below.refl _ _).alloc (Nat.le_refl _) _)), hJb _ _ _ hps.2.1 ((Below.refl _ _).alloc (Nat.le_refl _) _), by rw [World.size_alloc]; exact Nat.le_succ_of_le hps.2.2, rfl⟩
        · cases hmi
          cases ho
          have l6 : listed.getD 6 false = true := haf ⟨6, .data⟩ (Array.mem_of_getElem? (i := 0) rfl) rfl
          have q15 : a'.tmps[15]? = some (val 6) := hS.tmpSet 6 _ 15 rfl rfl (by simp) l6
          rw [show val 6 = .agg #[.bool bL, .bool bR, .slice ta tn tc] from hF 6 l6 (by decide)] at q15
          have l7 : listed.getD 7 false = true := haf ⟨7, .data⟩ (Array.mem_of_getElem? (i := 1) rfl) rfl
          have q16 : a'.tmps[16]? = some (val 7) := hS.tmpSet 7 _ 16 rfl rfl (by simp) l7
          rw [show val 7 = .int .i64 (k : Int) from hF 7 l7 (by decide)] at q16
          refine op_callv 102 #[.agg #[.bool bL, .bool bR, .slice ta tn tc], .int .i64 (k : Int)] (fun _ _ => trivial) ?_ (by omega) ((callsIn_wide.2 (HIB.out W hps.1)).mono ?_)
          · rw [Oper.semAt_plain _ _ _ (by intro c h; cases h)]
            simp [execOp, q15, q16, go_sem]
          · rintro e W2 ⟨rfl, rfl⟩
            exact ⟨_, rfl, hKt hps.1 (hKB _ _ ((Below.refl _ _).alloc (Nat.le_refl _) _)), hJb _ _ _ hps.2.1 ((Below.refl _ _).alloc (Nat.le_refl _) _), by rw [World.size_alloc]; exact Nat.le_succ_of_le hps.2.2.1, hps.2.2.2, rfl⟩
        · cases hmi
          cases ho
          have l0 : listed.getD 0 false = true := haf ⟨0, .data⟩ (Array.mem_of_getElem? (i := 0) rfl) rfl
          have q9 : a'.tmps[9]? = some (val 0) := hS.tmpSet 0 _ 9 rfl rfl (by simp) l0
          rw [show val 0 = .func (.yield l) #[] #[] from hF 0 l0 (by decide)] at q9
          have l4 : listed.getD 4 false = true := haf ⟨4, .data⟩ (Array.mem_of_getElem? (i := 1) rfl) rfl
          have q13 : a'.tmps[13]? = some (val 4) := hS.tmpSet 4 _ 13 rfl rfl (by simp) l4
          have l8 : listed.getD 8 false = true := haf ⟨8, .data⟩ (Array.mem_of_getElem? (i := 2) rfl) rfl
          have q17 : a'.tmps[17]? = some (val 8) := hS.tmpSet 8 _ 17 rfl rfl (by simp) l8
          obtain ⟨h1, h2, h3, h4, h5⟩ := hps
          rw [h4] at q13
          rw [h5] at q17
          refine op_yieldv l #[.int .i64 x, .int .i64 y] ?_ (fun _ _ => trivial) (by omega) ((HYY.out W h2 h3).mono ?_)
          · intro l2 fn tmps asg bd hy
            rw [Oper.semAt_plain _ _ _ (by intro c h; cases h)]
            simp [execOp, q9, q13, q17, go_sem, hy]
          · rintro e W2 (⟨rfl, h6, h7⟩ | ⟨rfl, h6⟩)
            · exact ⟨_, rfl, .inl ⟨rfl, h6, hKt h1 h7, Nat.le_trans h3 (hKs _ _ h7)⟩⟩
            · exact ⟨_, rfl, .inr ⟨rfl, h6⟩⟩
        · cases hmi
          cases ho
          have l9 : listed.getD 9 false = true := haf ⟨9, .data⟩ (Array.mem_of_getElem? (i := 0) rfl) rfl
          have q18 : a'.tmps[18]? = some (val 9) := hS.tmpSet 9 _ 18 rfl rfl (by simp) l9
          rcases hps with ⟨h1, h2⟩ | ⟨h1, h2⟩
          · rw [h1] at q18
            refine op_valv (.bool false) W (fun _ _ => trivial) ?_ (.inl ⟨rfl, h2⟩)
            rw [Oper.semAt_plain _ _ _ (by intro c h; cases h)]
            simp [execOp, q18, go_sem]
          · rw [h1] at q18
            refine op_valv (.bool true) W (fun _ _ => trivial) ?_ (.inr ⟨rfl, h2⟩)
            rw [Oper.semAt_plain _ _ _ (by intro c h; cases h)]
            simp [execOp, q18, go_sem]
      · intro W6 val6 hps6 hF6
        have e0 := hF6 0 (by decide) (by decide)
        have e1 := hF6 1 (by decide) (by decide)
        have e2 := hF6 2 (by decide) (by decide)
        have e3 := hF6 3 (by decide) (by decide)
        have e5 := hF6 5 (by decide) (by decide)
        have e6 := hF6 6 (by decide) (by decide)
        have e7 := hF6 7 (by decide) (by decide)
        clear hF6
        simp only [finAct, List.getElem?_toArray, List.getElem?_cons_zero, List.getElem?_cons_succ, Act.put, List.setIfInBounds_toArray, List.set_cons_zero, List.set_cons_succ, List.size_toArray, List.length_cons, List.length_nil, Nat.reduceAdd]
        rcases hps6 with ⟨h1, h2, h3, h4⟩ | ⟨h1, h2⟩
        · rw [h1]
          have HJ2 := Lib.hid h2
          have HK2 := Lib.hid h3
          have HS2 := Lib.hid h4
          clear h1 h2 h3 h4 e0 e1 e2 e3 e5 e6 e7
          gi_wp2
          go_roundw
          case rel => exact ⟨k + 1, by omega, by go_num, HJ2.out, HK2.out, HS2.out⟩
          case measure => simp [intOf]; omega
        · rw [h1]
          have HJ2 := Lib.hid h2
          clear h1 h2 e0 e1 e2 e3 e5 e6 e7
          gi_wp2
          refine bodyPost_ret (results_none rfl _ _ _) rfl ?_
          exact ⟨⟨_, rfl⟩, .inr ⟨_, trivial, HJ2.out⟩⟩
    · obtain rfl : k = N := by omega
      have HX : Hid (PL.take k = PL) := Lib.hid (by rw [← HPL.out, List.take_length])
      rw [HX.out] at hJs
      gi_wp2
      go_end0
      exact ⟨⟨_, rfl⟩, .inl ⟨PL, rfl, hJs⟩⟩
end Go.Proofs.YthlkgfplffdiaaaGreatDoor.Ar
