/- The program: what is wrong with nodes as a tree: nothing, if they are one. -/
import Derived.Test.YtbegplfijjbpcaaDoorNqReg
import Derived.Test.YtbegplfijjbpcaaDoorNqIdx
import Derived.Test.YtbegplfijjbpcaaDoorNqAll
import Derived.Test.YtbegplfijjbpcaaDoorNqB
namespace Go.Proofs.YtbegplfijjbpcaaDoor.No
open Go Go.RowKit Go.Shelf
attribute [local go_sem] Oper.semAt_some

/-- What is wrong, at a place, in words. -/
def wrongV (a : Int) (s : ByteArray) : Value := .iface 70 (.agg #[.int .i64 a, .string s])

/-- What the loop keeps. -/
structure CI (w : World) (SL : Value) (T : List Nd) (n m f p p2 : Nat) (W : World) : Prop where
  tr : Row W w.heap.size 47 #[SL]
  bp : Row W p 71 #[.map (some m)]
  b2 : Row W p2 73 #[.slice (some ⟨f, 0, none⟩) n n]
  fm : FormsAt W m
  size : w.heap.size + 2 ≤ W.heap.size
  below : Below w.heap.size w W
theorem CI.still {w : World} {SL : Value} {T : List Nd} {n m f p p2 : Nat} {W W' : World} (h : CI w SL T n m f p p2 W) (hs : ∀ (k : Nat) (ob : Obj), W.heap[k]? = some ob → (∀ c, ob ≠ .cells c 42 (0, 0)) → (∀ r, ob ≠ .loop r) → (∀ d, ob ≠ .deferred d) → W'.heap[k]? = some ob) (hb : Below w.heap.size w W') (hz : W.heap.size ≤ W'.heap.size) : CI w SL T n m f p p2 W' := by
  have key : ∀ {k : Nat} {t : TypeId} {cs : Array Value}, Row W k t cs → t ≠ 42 → Row W' k t cs := fun h ht => hs _ _ h (fun c e => by injection e with _ e; exact ht e) (fun r e => by cases e) (fun r e => by cases e)
  exact ⟨key h.tr (by decide), key h.bp (by decide), key h.b2 (by decide), hs _ _ h.fm (fun c e => by cases e) (fun r e => by cases e) (fun r e => by cases e), Nat.le_trans h.size hz, hb⟩
/-- All blocks but nodes', loops' and deferred ones are as they were. -/
def StillN (W W' : World) : Prop := ∀ (k : Nat) (ob : Obj), W.heap[k]? = some ob → (∀ c, ob ≠ .cells c 42 (0, 0)) → (∀ r, ob ≠ .loop r) → (∀ d, ob ≠ .deferred d) → W'.heap[k]? = some ob
theorem row_still {W W' : World} {k : Nat} {t : TypeId} {cs : Array Value} (hs : StillN W W') (h : Row W k t cs) (ht : t ≠ 42) : Row W' k t cs := hs _ _ h (fun c e => by injection e with _ e; exact ht e) (fun r e => by cases e) (fun r e => by cases e)
theorem StillN.step {b : Nat} {W W' : World} (h : StepT 42 b W W') : StillN W W' := fun k ob ho h1 _ _ => h.2 k ob ho h1
theorem StillN.put {W : World} {l : Nat} {r r' : Loop} (h : W.heap[l]? = some (.loop r)) : StillN W (W.putObj l (.loop r')) := fun k ob ho _ h2 _ => by
  have hne : k ≠ l := fun e => by subst e; rw [h] at ho; cases ho; exact h2 _ rfl
  exact (World.putObj_heap_other hne).trans ho
theorem StillN.drop {W : World} {D : Nat} {d d' : Option (List Deferred)} (h : W.heap[D]? = some (.deferred d)) : StillN W (W.putObj D (.deferred d')) := fun k ob ho _ _ h2 => by
  have hne : k ≠ D := fun e => by subst e; rw [h] at ho; cases ho; exact h2 _ rfl
  exact (World.putObj_heap_other hne).trans ho
theorem StillN.below {W W' : World} (h : Below W.heap.size W W') : StillN W W' := fun k _ ho _ _ _ => (h.block k (Array.getElem?_eq_some_iff.1 ho).1).trans ho
/-- In the loop: behind so many nodes. -/
structure CL (w : World) (SL : Value) (T : List Nd) (n m f p p2 : Nat) (pre : List (Ix n)) (W : World) : Prop where
  ci : CI w SL T n m f p p2 W
  er : Row W (w.heap.size + 1) 45 #[.nilIface]
  fr : ∃ L, Row W f 4 (bools L) ∧ L.length = n ∧ (pre.map (·.1) = List.range pre.length → CK T pre.length ∧ L = freeL n (allKids (T.take pre.length)))
theorem CL.still {w : World} {SL : Value} {T : List Nd} {n m f p p2 : Nat} {pre : List (Ix n)} {W W' : World} (h : CL w SL T n m f p p2 pre W) (hs : StillN W W') (hb : Below w.heap.size w W') (hz : W.heap.size ≤ W'.heap.size) : CL w SL T n m f p p2 pre W' := by
  obtain ⟨L, h1, h2, h3⟩ := h.fr
  exact ⟨h.ci.still hs hb hz, row_still hs h.er (by decide), L, row_still hs h1 (by decide), h2, h3⟩
/-- Where it is left. -/
structure CX (w : World) (SL : Value) (T : List Nd) (n m f p p2 : Nat) (c : Code) (W : World) : Prop where
  c : c = .exit 0
  ci : CI w SL T n m f p p2 W
  er : ∃ a s, Row W (w.heap.size + 1) 45 #[wrongV a s]
  fr : ∃ L, Row W f 4 (bools L) ∧ L.length = n
  no : rightB T = false
theorem CX.still {w : World} {SL : Value} {T : List Nd} {n m f p p2 : Nat} {c : Code} {W W' : World} (h : CX w SL T n m f p p2 c W) (hs : StillN W W') (hb : Below w.heap.size w W') (hz : W.heap.size ≤ W'.heap.size) : CX w SL T n m f p p2 c W' := by
  obtain ⟨L, h1, h2⟩ := h.fr
  obtain ⟨a, s, h3⟩ := h.er
  exact ⟨h.c, h.ci.still hs hb hz, ⟨a, s, row_still hs h3 (by decide)⟩, ⟨L, row_still hs h1 (by decide), h2⟩, h.no⟩

theorem below_put {n l : Nat} {w X : World} {r r' : Loop} (h : Below n w X) (hn : n ≤ l) (hl : X.heap[l]? = some (.loop r)) : Below n w (X.putObj l (.loop r')) :=
  h.trans ((Below.refl n X).grown (grownBy_putObj' X l _) (by have := (Array.getElem?_eq_some_iff.1 hl).1; omega) (fun k e => by cases e; exact hn))
theorem below_drop {n D : Nat} {w X : World} {d d' : Option (List Deferred)} (h : Below n w X) (hn : n ≤ D) (hl : X.heap[D]? = some (.deferred d)) : Below n w (X.putObj D (.deferred d')) :=
  h.trans ((Below.refl n X).grown (grownBy_putObj' X D _) (by have := (Array.getElem?_eq_some_iff.1 hl).1; omega) (fun k e => by cases e; exact hn))
theorem keeps_below {X Y : World} (B : Nat) (h : Below X.heap.size X Y) : KeepsFrom B X Y := ⟨h.size, fun k _ _ ho _ => (h.block k (Array.getElem?_eq_some_iff.1 ho).1).trans ho⟩
theorem keeps_row {X Y : World} (B : Nat) {f : Nat} {t : TypeId} {cs : Array Value} (hr : Row X f t cs) (h : X.grownBy Y (some f)) : KeepsFrom B X Y := ⟨h.size, fun k ob _ ho hc => (h.block k (Array.getElem?_eq_some_iff.1 ho).1 (fun e => by
  injection e with e
  subst e
  rw [show X.heap[k]? = _ from hr] at ho
  cases ho
  cases hc)).trans ho⟩
/-- Another row's block is written. -/
theorem CI.grown {w : World} {SL : Value} {T : List Nd} {n m f p p2 : Nat} {W W' : World} (h : CI w SL T n m f p p2 W) {q : Nat} {t : TypeId} {cs : Array Value} (hq : Row W q t cs) (ht : t = 4 ∨ t = 45) (hq0 : w.heap.size ≤ q) (hg : W.grownBy W' (some q)) : CI w SL T n m f p p2 W' := by
  have key : ∀ {k : Nat} {u : TypeId} {ds : Array Value}, Row W k u ds → u ≠ t → Row W' k u ds := fun {k u ds} hk hne => row_grown hk hg (fun e => by
    injection e with e
    exact row_apart hk hq hne e.symm)
  refine ⟨key h.tr (by rcases ht with rfl | rfl <;> decide), key h.bp (by rcases ht with rfl | rfl <;> decide), key h.b2 (by rcases ht with rfl | rfl <;> decide), (hg.block m (Array.getElem?_eq_some_iff.1 h.fm).1 (fun e => ?_)).trans h.fm, Nat.le_trans h.size hg.size, below_grown h.below h.below.size hg hq0⟩
  injection e with e
  exact h.fm.apart hq e

set_option maxRecDepth 100000 in
set_option maxHeartbeats 8000000 in
theorem check_c (w : World) (v : Value) (T : List Nd) (hT : NL w v T) (hk : ∀ x ∈ T, x.kids.length ≤ 1000000) :
    Calls Tryd.prog 28 #[.agg #[v]] w fun e W' => Below w.heap.size w W' ∧ ((rightB T = true ∧ e = .returned .nilIface) ∨ (rightB T = false ∧ ∃ a s, e = .returned (wrongV a s))) := by
  have hmix : Tryd.prog.follows .mixedOrders = true := by kernel_rfl
  obtain ⟨a0, c0, kv, rfl, hc1, hc2, hL⟩ := hT.lies
  obtain ⟨n, hn⟩ : ∃ n, n = T.length := ⟨_, rfl⟩
  rw [← hn] at hc1 hL ⊢
  unfold maxLen at hc2
  have HN := Lib.hid hn
  have HL := Lib.hid hL
  have HK := Lib.hid hk
  obtain ⟨R, hR⟩ : ∃ R, R = rightB T := ⟨_, rfl⟩
  have HR := Lib.hid hR
  rw [← hR]
  clear hT hL hn hR hk
  obtain ⟨B, hB⟩ : ∃ B, B = w.heap.size := ⟨_, rfl⟩
  have HB := Lib.hid hB
  by_cases hout : n < 1 ∨ 400 < n
  · have HRF : Hid (R = false) := Lib.hid (by
      rw [HR.out]
      exact right_no (fun h => by
        have h1 := h.pos
        have h2 := h.max
        rw [← HN.out] at h1 h2
        omega))
    have HBA : Hid (∀ a b, Below w.heap.size w ((w.alloc a).alloc b)) := Lib.hid (fun a b => ((Below.refl _ w).alloc (Nat.le_refl _) _).alloc (by simp) _)
    by_cases h1 : n < 1
    · obtain rfl : n = 0 := by omega
      refine (callsIn_wide (n := 5)).1 ?_
      refine callsIn_of_wp_marks Tryd.func28 rfl trivial ?_ rfl
      simp only [Tryd.ntmps28, List.size_toArray, List.length_cons, List.length_nil, Nat.reduceAdd, Nat.reduceSub, Array.replicate_succ, Array.replicate_zero, List.push_toArray, List.append_toArray, List.nil_append, List.cons_append]
      gi_wp2
      refine wpIn_scope_straight ?_
      gi_wp2_with (refine ⟨trivial, ?_⟩; gi_at_call 31; refine (callsIn_wide.2 (root_c _ _ _ _ (by omega))).mono ?_; rintro e w1 ⟨rfl, rfl⟩)
      refine ⟨wrongV (-1) ⟨#[110, 111, 32, 116, 114, 101, 101, 32, 104, 97, 115, 32, 105, 116, 115, 32, 114, 111, 111, 116, 32, 116, 104, 101, 114, 101]⟩, ?_, HBA.out _ _, .inr ⟨HRF.out, _, _, rfl⟩⟩
      simp [results, Tryd.f28, go_sem, wrongV]
    · have q1 : ¬ (n : Int) < 1 := by omega
      have q2 : (400 : Int) < (n : Int) := by omega
      refine (callsIn_wide (n := 5)).1 ?_
      refine callsIn_of_wp_marks Tryd.func28 rfl trivial ?_ rfl
      simp only [Tryd.ntmps28, List.size_toArray, List.length_cons, List.length_nil, Nat.reduceAdd, Nat.reduceSub, Array.replicate_succ, Array.replicate_zero, List.push_toArray, List.append_toArray, List.nil_append, List.cons_append]
      gi_wp2
      refine wpIn_scope_straight ?_
      gi_wp2_with (refine ⟨trivial, ?_⟩; gi_at_call 31; refine (callsIn_wide.2 (root_c _ _ _ _ (by omega))).mono ?_; rintro e w1 ⟨rfl, rfl⟩)
      refine ⟨wrongV ((n : Int) - 1) ⟨#[110, 111, 32, 116, 114, 101, 101, 32, 104, 97, 115, 32, 105, 116, 115, 32, 114, 111, 111, 116, 32, 116, 104, 101, 114, 101]⟩, ?_, HBA.out _ _, .inr ⟨HRF.out, _, _, rfl⟩⟩
      simp [results, Tryd.f28, go_sem, wrongV]
  · have h1 : ¬ (n : Int) < 1 := by omega
    have h2 : ¬ (400 : Int) < (n : Int) := by omega
    have d1 : decide ((n : Int) < 1) = false := by simp; omega
    have d2 : decide ((400 : Int) < (n : Int)) = false := by simp; omega
    obtain ⟨g, o, rfl, hg, hlies⟩ := HL.out (by omega)
    refine (callsIn_wide (n := 5)).1 ?_
    refine callsIn_of_wp_marks Tryd.func28 rfl trivial ?_ rfl
    simp only [Tryd.ntmps28, List.size_toArray, List.length_cons, List.length_nil, Nat.reduceAdd, Nat.reduceSub, Array.replicate_succ, Array.replicate_zero, List.push_toArray, List.append_toArray, List.nil_append, List.cons_append]
    gi_wp2
    refine wpIn_scope_straight ?_
    gi_wp2
    obtain ⟨W1, hW1⟩ : ∃ W, W = (w.alloc (.cells #[.slice (some ⟨g, o, none⟩) n c0] 47)).alloc (.cells #[.nilIface] 45) := ⟨_, rfl⟩
    have rT : Row W1 w.heap.size 47 #[.slice (some ⟨g, o, none⟩) n c0] := by rw [hW1]; exact (Row.new _ _ _).alloc _
    have rE : Row W1 (w.heap.size + 1) 45 #[.nilIface] := by rw [hW1]; exact Row.at _ _ _ _ (by simp)
    have hb1 : Below w.heap.size w W1 := by rw [hW1]; exact ((Below.refl _ w).alloc (Nat.le_refl _) _).alloc (by simp) _
    have hz1 : W1.heap.size = w.heap.size + 2 := by rw [hW1]; simp
    rw [← hW1]
    have HTREE := Lib.hid rT
    have HERR := Lib.hid rE
    have HB1 := Lib.hid hb1
    clear hW1 rT rE hb1
    refine wpIn_region_vals hmix (by kernel_rfl) (JR W1 w.heap.size n (some ⟨g, o, none⟩) c0) ?_ ?_ ?_
    · intro val
      exact ⟨(Below.refl _ _).drew, fun i hi h => absurd h (by rw [rep_getD]; decide), fun h => absurd h (by rw [rep_getD]; decide), fun h => absurd h (by rw [rep_getD]; decide)⟩
    · intro i oo listed a' w' val ho hsz hu haf hS hJ
      have hi : i < 10 := (Array.getElem?_eq_some_iff.1 ho).1
      change listed.size = 10 at hsz
      obtain rfl | rfl | rfl | rfl | rfl | rfl | rfl | rfl | rfl | rfl : i = 0 ∨ i = 1 ∨ i = 2 ∨ i = 3 ∨ i = 4 ∨ i = 5 ∨ i = 6 ∨ i = 7 ∨ i = 8 ∨ i = 9 := by omega
      · cases ho
        refine op_callv 44 #[] (fun _ _ => trivial) ?_ (by omega) ((callsIn_wide.2 (forms_c w')).mono ?_)
        · rw [Oper.semAt_plain _ _ _ (by intro c h; cases h)]
          simp [execOp, go_sem]
        · rintro e w5 ⟨m, rfl, hm1, hm2, hb5⟩
          exact ⟨_, rfl, hJ.more hsz (by omega) hu _ hb5 ⟨m, rfl, Nat.le_trans hJ.below.size hm2, hm1⟩⟩
      · cases ho
        refine op_valv (.slice (some ⟨w'.heap.size, 0, none⟩) 1 1) (w'.alloc (.cells #[.bool true] 4)) (fun _ _ => trivial) ?_ (hJ.more hsz (by omega) hu _ ((Below.refl _ _).alloc (Nat.le_refl _) _) ⟨_, rfl, hJ.below.size, Row.new _ _ _⟩)
        rw [Oper.semAt_plain _ _ _ (by intro c h; cases h)]
        simp [execOp, go_sem]
      · cases ho
        have q1 : a'.tmps[1]? = some (.pointer (some ⟨w.heap.size, 0, none⟩)) := (hS.tmpBase 1 (by kernel_rfl)).trans rfl
        refine op_valv (.pointer (some ⟨w.heap.size, 0, none⟩)) w' (fun _ _ => trivial) ?_ (hJ.more hsz (by omega) hu _ (Below.refl _ _) rfl)
        rw [Oper.semAt_plain _ _ _ (by intro c h; cases h)]
        simp [execOp, q1, go_sem]
      · cases ho
        have l2 : listed.getD 2 false = true := haf ⟨2, .data⟩ (Array.mem_of_getElem? (i := 0) rfl) rfl
        have q25 : a'.tmps[25]? = some (val 2) := hS.tmpSet 2 _ 25 rfl rfl (by simp) l2
        rw [show val 2 = _ from hJ.told 2 (by omega) l2] at q25
        have k1 : w'.cell? ⟨w.heap.size, 0, none⟩ = some (.slice (some ⟨g, o, none⟩) n c0) := (HTREE.out.below hJ.below HTREE.out.lt).cell 0
        refine op_valv (.slice (some ⟨g, o, none⟩) n c0) w' (fun _ _ => trivial) ?_ (hJ.more hsz (by omega) hu _ (Below.refl _ _) rfl)
        rw [Oper.semAt_plain _ _ _ (by intro c h; cases h)]
        simp [execOp, q25, k1, go_sem]
      · cases ho
        have l3 : listed.getD 3 false = true := haf ⟨3, .data⟩ (Array.mem_of_getElem? (i := 0) rfl) rfl
        have q26 : a'.tmps[26]? = some (val 3) := hS.tmpSet 3 _ 26 rfl rfl (by simp) l3
        rw [show val 3 = _ from hJ.told 3 (by omega) l3] at q26
        refine op_valv (.int .i64 n) w' (fun _ _ => trivial) ?_ (hJ.more hsz (by omega) hu _ (Below.refl _ _) rfl)
        rw [Oper.semAt_plain _ _ _ (by intro c h; cases h)]
        simp [execOp, q26, go_sem]
      · cases ho
        have l1 : listed.getD 1 false = true := haf ⟨1, .data⟩ (Array.mem_of_getElem? (i := 0) rfl) rfl
        have l4 : listed.getD 4 false = true := haf ⟨4, .data⟩ (Array.mem_of_getElem? (i := 1) rfl) rfl
        obtain ⟨s, s1, s2, s3⟩ := hJ.told 1 (by omega) l1
        have q24 : a'.tmps[24]? = some (val 1) := hS.tmpSet 1 _ 24 rfl rfl (by simp) l1
        have q27 : a'.tmps[27]? = some (val 4) := hS.tmpSet 4 _ 27 rfl rfl (by simp) l4
        rw [show val 4 = _ from hJ.told 4 (by omega) l4] at q27
        rw [s1] at q24
        refine op_callv 45 #[.slice (some ⟨s, 0, none⟩) 1 1, .int .i64 n] (fun _ _ => trivial) ?_ (by omega) ((callsIn_wide.2 (rep_c w' s n (s3.cell 0) s3.lt (by omega))).mono ?_)
        · rw [Oper.semAt_plain _ _ _ (by intro c h; cases h)]
          simp [execOp, q24, q27, go_sem]
        · rintro e w5 ⟨rfl, hr5, hb5⟩
          exact ⟨_, rfl, hJ.more hsz (by omega) hu _ hb5 ⟨_, rfl, hJ.below.size, hr5⟩⟩
      · cases ho
        refine op_valv (.pointer (some ⟨w'.heap.size, 0, none⟩)) (w'.alloc (.cells #[.map none] 71)) (fun _ _ => trivial) ?_ (hJ.more hsz (by omega) hu _ ((Below.refl _ _).alloc (Nat.le_refl _) _) ⟨_, _, rfl, hJ.below.size, Row.new _ _ _⟩)
        rw [Oper.semAt_plain _ _ _ (by intro c h; cases h)]
        simp [execOp, go_sem]
      · cases ho
        refine op_valv (.pointer (some ⟨w'.heap.size, 0, none⟩)) (w'.alloc (.cells #[.slice none 0 0] 73)) (fun _ _ => trivial) ?_ (hJ.more hsz (by omega) hu _ ((Below.refl _ _).alloc (Nat.le_refl _) _) ⟨_, _, rfl, hJ.below.size, Row.new _ _ _⟩)
        rw [Oper.semAt_plain _ _ _ (by intro c h; cases h)]
        simp [execOp, go_sem]
      · cases ho
        have l6 : listed.getD 6 false = true := haf ⟨6, .data⟩ (Array.mem_of_getElem? (i := 0) rfl) rfl
        have l0 : listed.getD 0 false = true := haf ⟨0, .data⟩ (Array.mem_of_getElem? (i := 1) rfl) rfl
        obtain ⟨p, m, u, s1, s2, s3, s4⟩ := hJ.set8 hsz hu l0 l6
        have q4 : a'.tmps[4]? = some (val 6) := hS.tmpSet 6 _ 4 rfl rfl (by simp) l6
        have q23 : a'.tmps[23]? = some (val 0) := hS.tmpSet 0 _ 23 rfl rfl (by simp) l0
        rw [s1] at q4
        rw [s2] at q23
        have k1 := s3.cell 0
        have k2 := s3.frozen 0
        simp only [List.getElem?_toArray, List.getElem?_cons_zero] at k1
        refine op_skipv (w'.setCell ⟨p, 0, none⟩ (.map (some m))) (fun _ _ => trivial) ?_ s4
        rw [Oper.semAt_plain _ _ _ (by intro c h; cases h)]
        simp [execOp, q4, q23, k1, k2, go_sem]
      · cases ho
        have l7 : listed.getD 7 false = true := haf ⟨7, .data⟩ (Array.mem_of_getElem? (i := 0) rfl) rfl
        have l5 : listed.getD 5 false = true := haf ⟨5, .data⟩ (Array.mem_of_getElem? (i := 1) rfl) rfl
        obtain ⟨p, f, u, s1, s2, s3, s4⟩ := hJ.set9 hsz hu l5 l7
        have q5 : a'.tmps[5]? = some (val 7) := hS.tmpSet 7 _ 5 rfl rfl (by simp) l7
        have q28 : a'.tmps[28]? = some (val 5) := hS.tmpSet 5 _ 28 rfl rfl (by simp) l5
        rw [s1] at q5
        rw [s2] at q28
        have k1 := s3.cell 0
        have k2 := s3.frozen 0
        simp only [List.getElem?_toArray, List.getElem?_cons_zero] at k1
        refine op_skipv (w'.setCell ⟨p, 0, none⟩ (.slice (some ⟨f, 0, none⟩) n n)) (fun _ _ => trivial) ?_ s4
        rw [Oper.semAt_plain _ _ _ (by intro c h; cases h)]
        simp [execOp, q5, q28, k1, k2, go_sem]
    · intro listed W val hl hJ
      obtain ⟨m, sl, f, p, p2, v0, v1, v2, v3, v4, v5, v6, v7, lm, lf, lp, lp2, hM, hF, hP, hP2⟩ := hJ.done hl
      have hbJ := hJ.below
      simp only [finAct, List.size_toArray, List.length_cons, List.length_nil, Nat.reduceAdd, List.getElem?_toArray, List.getElem?_cons_zero, List.getElem?_cons_succ, Act.put, List.setIfInBounds_toArray, List.set_cons_zero, List.set_cons_succ, v0, v1, v2, v3, v4, v5, v6, v7]
      clear hJ hl v0 v1 v2 v3 v4 v5 v6 v7
      rename_i K hK
      have cT : W.cell? ⟨w.heap.size, 0, none⟩ = some (.slice (some ⟨g, o, none⟩) n c0) := (HTREE.out.below hbJ HTREE.out.lt).cell 0
      refine hK _ _ ?_
      clear hK
      gi_wp2
      refine wpIn_label ?_
      gi_wp2_with (refine ⟨trivial, ?_⟩; gi_at_call 46; refine (allN_in _ 4 trivial rfl _ _ _ _).mono ?_; rintro e w' ⟨rfl, rfl⟩)
      have hN := HN.out
      rename_i K2 hK2
      obtain ⟨W0, hW0⟩ : ∃ W0, W0 = W.alloc (.cells #[.slice (some ⟨g, o, none⟩) n c0] 22) := ⟨_, rfl⟩
      have hb0 : Below W.heap.size W W0 := by rw [hW0]; exact (Below.refl _ _).alloc (Nat.le_refl _) _
      have hz0 : W0.heap.size = W.heap.size + 1 := by rw [hW0]; simp
      have hzW := hbJ.size
      have hbw : Below w.heap.size w W0 := HB1.out.trans ((hbJ.trans (hb0.mono hzW)).mono (by omega))
      have cI : W0.cell? ⟨W.heap.size, 0, none⟩ = some (.slice (some ⟨g, o, none⟩) n c0) := by rw [hW0]; exact (Row.new W _ _).cell 0
      have hI0 : CL w (.slice (some ⟨g, o, none⟩) n c0) T n m f p p2 [] W0 := by
        refine ⟨⟨(HTREE.out.below hbJ HTREE.out.lt).below hb0 (by omega), hP.below hb0 hP.lt, hP2.below hb0 hP2.lt, hM.below hb0, by omega, hbw⟩, (HERR.out.below hbJ HERR.out.lt).below hb0 (by omega), List.replicate n true, hF.below hb0 hF.lt, by simp, fun _ => ⟨CK.zero T, ?_⟩⟩
        rw [← free_nil]
        rfl
      have hds := allN_stops Fence.wide 4 trivial rfl (by omega) W.heap.size w.heap.size n c0 (some ⟨g, o, none⟩) T kv hN.symm (by omega) W0 (by omega) (by omega) cI (fun _ => ⟨g, o, rfl, hg, hlies.below rfl hbw hg⟩)
      have hf2 : w.heap.size + 2 ≤ f := by omega
      rw [← hW0]
      clear hW0 cI cT hM hF hP hP2 hb0 hbJ HTREE HERR
      refine wpIn_rangeFunc_ownO (t := 42) rfl (by omega) (gf := 58) (lb := #[.pointer (some ⟨W.heap.size, 0, none⟩)]) rfl trivial (enters_of Tryd.func58 (by kernel_rfl) rfl)
        hds (fun h k => h.trans k) (fun X l r r' hl hX => below_put (Below.refl _ _) (by omega) hX) (Below.refl _ _) (fun _ => rfl)
        (CL w (.slice (some ⟨g, o, none⟩) n c0) T n m f p p2) (fun c _ => CX w (.slice (some ⟨g, o, none⟩) n c0) T n m f p p2 c)
        (fun q X Y hs hb => hs.still (StillN.step hb) (hs.ci.below.trans (hb.1.mono (by omega))) hb.1.size)
        (fun c q X Y hs hb => hs.still (StillN.step hb) (hs.ci.below.trans (hb.1.mono (by omega))) hb.1.size)
        (fun q X l r r' hs hl hX => hs.still (StillN.put hX) (below_put hs.ci.below (by omega) hX) (by simp [World.putObj]))
        (fun c q X l r r' hs hl hX => hs.still (StillN.put hX) (below_put hs.ci.below (by omega) hX) (by simp [World.putObj]))
        hI0
        (fun x a' X => ∃ Bx, w.heap.size + 2 ≤ Bx ∧ Row X Bx 42 #[.int .i64 (ndAt T x.1).kind, .string (bs (ndAt T x.1).text), kv x.1] ∧ a' = { tmps := #[.agg #[.slice (some ⟨g, o, none⟩) n c0], .pointer (some ⟨w.heap.size, 0, none⟩), .nilIface, .pointer (some ⟨w.heap.size + 1, 0, none⟩), .pointer (some ⟨p, 0, none⟩), .pointer (some ⟨p2, 0, none⟩), .int .i64 (x.1 : Int), .pointer (some ⟨Bx, 0, none⟩), undef, .pointer (some ⟨w.heap.size, 0, none⟩), .slice (some ⟨g, o, none⟩) n c0, .int .i64 (n : Int), .bool false, .bool false, .pointer (some ⟨w.heap.size, 0, none⟩), .slice (some ⟨g, o, none⟩) n c0, .int .i64 (n : Int), .bool false, .bool false, undef, undef, undef, undef, .map (some m), .slice (some ⟨sl, 0, none⟩) 1 1, .pointer (some ⟨w.heap.size, 0, none⟩), .slice (some ⟨g, o, none⟩) n c0, .int .i64 (n : Int), .slice (some ⟨f, 0, none⟩) n n, .pointer (some ⟨w.heap.size, 0, none⟩), .slice (some ⟨g, o, none⟩) n c0, .func (.func 58) #[] #[.pointer (some ⟨W.heap.size, 0, none⟩)], .int .i64 (x.1 : Int), .agg #[.int .i64 (ndAt T x.1).kind, .string (bs (ndAt T x.1).text), kv x.1], undef, undef, undef, undef, undef, undef, undef, undef, undef, undef, undef, undef, undef, undef, undef, undef, undef, undef, undef, undef, undef, undef, undef, undef, undef, undef, undef, undef, undef, undef, undef, undef, undef], defers := [] })
        (fun x a' _ X Y row hs hg hr => by obtain ⟨Bx, h1, h2, h3⟩ := hs; exact ⟨Bx, h1, h2.kept hg (fun r e => (hr r e).2), h3⟩)
        ?assign ?body ?done ?stop
      case assign =>
        rintro l pre x X K' hI hsX hK'
        obtain ⟨_, _, _, hkk⟩ := hlies x.1 _ (ndAt_of (by rw [← hN]; exact x.2))
        obtain ⟨ka, kc, hkv, _⟩ := hkk.form
        clear hN
        dsimp only [encN]
        rw [hkv]
        gi_wp2
        have hst : StepT 42 (w.heap.size + 2) X (X.alloc (.cells #[.int .i64 (ndAt T x.1).kind, .string (bs (ndAt T x.1).text), .slice ka (ndAt T x.1).kids.length kc] 42)) := ⟨(Below.refl _ X).alloc hI.ci.size _, fun k ob ho _ => (Below.heap_alloc X _ k (Array.getElem?_eq_some_iff.1 ho).1).trans ho⟩
        exact hK' _ _ ((KeepsOthers.alloc _ _).from _) ((Below.refl _ X).alloc (by have := hI.ci.size; omega) _) (hI.still (StillN.step hst) (hI.ci.below.trans (hst.1.mono (by omega))) hst.1.size) ⟨X.heap.size, hI.ci.size, by rw [hkv]; exact Row.new X _ _, by rw [hkv]⟩
      case body =>
        rintro l pre x a' X hl ⟨r, hr⟩ hI ⟨Bx, hBx, bX, rfl⟩ hord
        have hlen : pre.length = x.1 := by have := congrArg List.length hord; simpa using this
        obtain ⟨L, f1, f2, f3⟩ := hI.fr
        obtain ⟨hck, hL⟩ := f3 (by rw [hlen]; exact hord)
        rw [hlen] at hck hL
        subst hL
        have hx := ndAt_of (T := T) (k := x.1) (by rw [← hN]; exact x.2)
        obtain ⟨_, _, _, hkk⟩ := hlies x.1 _ hx
        have hkX : KL X (kv x.1) (ndAt T x.1).kids := hkk.below hI.ci.below
        have HFI := Lib.hid (fits_c (ndAt T x.1) (kv x.1) m X hkX hI.ci.fm)
        have hkl := HK.out _ (List.mem_of_getElem? hx)
        have HTK := Lib.hid (fun (W' : World) (hb : Below w.heap.size w W') (hr : Row W' f 4 (bools (freeL n (allKids (T.take x.1))))) => take_c w W' f x.1 n (freeL n (allKids (T.take x.1))) (kv x.1) (ndAt T x.1).kids hb (by omega) hr (by rw [free_len]; exact Nat.le_of_lt x.2) (Nat.le_of_lt x.2) (by omega) hkk hkl)
        obtain ⟨ka, kc, hkv, _⟩ := hkk.form
        rw [hkv] at HFI HTK bX
        rw [hkv]
        have HX := Lib.hid hx
        have HCK := Lib.hid hck
        obtain ⟨bt, hbt⟩ : ∃ b, b = (takeF x.1 0 (ndAt T x.1).kids (freeL n (allKids (T.take x.1)))).1 := ⟨_, rfl⟩
        obtain ⟨bf, hbf⟩ : ∃ b, b = formB (ndAt T x.1) := ⟨_, rfl⟩
        obtain ⟨TL, hTL⟩ : ∃ b, b = (takeF x.1 0 (ndAt T x.1).kids (freeL n (allKids (T.take x.1)))).2 := ⟨_, rfl⟩
        rw [← hbf] at HFI
        rw [← hbt, ← hTL] at HTK
        obtain ⟨KN, hKN⟩ : ∃ k, k = (ndAt T x.1).kids.length := ⟨_, rfl⟩
        obtain ⟨kd, hkd⟩ : ∃ k, k = (ndAt T x.1).kind := ⟨_, rfl⟩
        obtain ⟨U, hU⟩ : ∃ k, k = bs (ndAt T x.1).text := ⟨_, rfl⟩
        rw [← hKN] at HFI HTK bX hkl ⊢
        rw [← hkd] at HFI bX ⊢
        rw [← hU] at HFI bX ⊢
        have HBT := Lib.hid hbt
        have HBF := Lib.hid hbf
        have HTL := Lib.hid hTL
        have HI := Lib.hid hI
        have HF1 := Lib.hid f1
        have HPRE := Lib.hid hlen
        have HORD := Lib.hid hord
        have HBX := Lib.hid bX
        obtain ⟨b1, b2, b3, _, _, _⟩ := node_cells bX
        have cP := hI.ci.bp.cell 0
        simp only [List.getElem?_toArray, List.getElem?_cons_zero] at cP
        have hzX := hI.ci.size
        clear hkk hkX hkv hck hx hbt hbf hTL hKN hkd hU hI f1 f2 f3 hlen hord bX hr hN hlies
        gi_wp2_with fail
        refine ⟨trivial, ?_⟩
        gi_at_call 47
        refine (CallsIn.inRound l (callsIn_wide.2 HFI.out)).mono ?_
        rintro e X1 ⟨rfl, hb1⟩
        have hc1 := HI.out.ci.still (StillN.below hb1) (HI.out.ci.below.trans (hb1.mono (by omega))) hb1.size
        have he1 := HI.out.er.below hb1 HI.out.er.lt
        have hf1 := HF1.out.below hb1 HF1.out.lt
        have hX1 := HBX.out.below hb1 HBX.out.lt
        have cE := he1.cell 0
        have fE := he1.frozen 0
        simp only [List.getElem?_toArray, List.getElem?_cons_zero] at cE
        have HB1 := Lib.hid hb1
        have HC1 := Lib.hid hc1
        have HE1 := Lib.hid he1
        have HF2 := Lib.hid hf1
        have HX1 := Lib.hid hX1
        clear hb1 hc1 he1 hf1 hX1 b1 b2 b3 cP
        cases bf with
        | false =>
          have HNO : Hid (rightB T = false) := Lib.hid (CK.form HX.out HBF.out.symm)
          gi_wp2
          exact ⟨(keeps_below _ HB1.out).trans ((KeepsOthers.setCell _ _ _).from _), rfl, HC1.out.grown HE1.out (.inr rfl) (by omega) (grown_set _ _ _ _), ⟨_, _, HE1.out.set 0 _⟩, ⟨_, HF2.out.other (row_apart HF2.out HE1.out (by decide)) _, free_len _ _⟩, HNO.out⟩
        | true =>
          have cB := HC1.out.b2.cell 0
          simp only [List.getElem?_toArray, List.getElem?_cons_zero] at cB
          have HCC : Hid (∀ W', X1.drew.grownBy W' (some f) → W'.cell? ⟨p2, 0, none⟩ = some (.slice (some ⟨f, 0, none⟩) n n) ∧ W'.cell? ⟨Bx, 2, none⟩ = some (.slice ka KN kc)) := Lib.hid (fun W' hg => by
            have r1 := row_grown (X := X1.drew) HC1.out.b2.drew hg (fun e => by injection e with e; exact row_apart HC1.out.b2 HF2.out (by decide) e.symm)
            have r2 := row_grown (X := X1.drew) HX1.out.drew hg (fun e => by injection e with e; exact row_apart HX1.out HF2.out (by decide) e.symm)
            exact ⟨r1.cell 0, r2.cell 2⟩)
          have HC : Hid (∀ (listed : Array Bool) (W' : World), ((listed.getD 5 false = false → W' = X1.drew) ∧ (listed.getD 5 false = true → X1.drew.grownBy W' (some f) ∧ Row W' f 4 (bools TL))) → W'.cell? ⟨p2, 0, none⟩ = some (.slice (some ⟨f, 0, none⟩) n n) ∧ W'.cell? ⟨Bx, 2, none⟩ = some (.slice ka KN kc)) := Lib.hid (fun listed W' h => by
            cases hl5 : listed.getD 5 false with
            | false => rw [h.1 hl5]; exact HCC.out _ (grown_refl _ _)
            | true => exact HCC.out _ (h.2 hl5).1)
          have HTK2 : Hid (∀ W', W' = X1.drew → Calls Tryd.prog 48 #[.slice (some ⟨f, 0, none⟩) x.1 n, .slice ka KN kc] W' fun e W'' => e = .returned (.bool bt) ∧ Row W'' f 4 (bools TL) ∧ X1.drew.grownBy W'' (some f)) := Lib.hid (fun W' e => by
            subst e
            exact HTK.out _ (HC1.out.below.trans (Below.refl _ _).drew) HF2.out.drew)
          have hx1 : (x.1 : Int) ≤ (n : Int) := by have := x.2; omega
          clear HTK HFI
          gi_wp2
          refine wpIn_region_shape hmix (by kernel_rfl) (fun i => [Value.slice (some ⟨f, 0, none⟩) n n, .int .i64 (x.1 : Int), .slice (some ⟨f, 0, none⟩) x.1 n, .pointer (some ⟨Bx, 2, none⟩), .slice ka KN kc, .bool bt, .bool (!bt), .bool (!bt)].getD i undef) { tmps := #[.agg #[.slice (some ⟨g, o, none⟩) n c0], .pointer (some ⟨w.heap.size, 0, none⟩), .nilIface, .pointer (some ⟨w.heap.size + 1, 0, none⟩), .pointer (some ⟨p, 0, none⟩), .pointer (some ⟨p2, 0, none⟩), .int .i64 (x.1 : Int), .pointer (some ⟨Bx, 0, none⟩), undef, .pointer (some ⟨w.heap.size, 0, none⟩), .slice (some ⟨g, o, none⟩) n c0, .int .i64 (n : Int), .bool false, .bool false, .pointer (some ⟨w.heap.size, 0, none⟩), .slice (some ⟨g, o, none⟩) n c0, .int .i64 (n : Int), .bool false, .bool false, undef, undef, undef, undef, .map (some m), .slice (some ⟨sl, 0, none⟩) 1 1, .pointer (some ⟨w.heap.size, 0, none⟩), .slice (some ⟨g, o, none⟩) n c0, .int .i64 (n : Int), .slice (some ⟨f, 0, none⟩) n n, .pointer (some ⟨w.heap.size, 0, none⟩), .slice (some ⟨g, o, none⟩) n c0, .func (.func 58) #[] #[.pointer (some ⟨W.heap.size, 0, none⟩)], .int .i64 (x.1 : Int), .agg #[.int .i64 kd, .string U, .slice ka KN kc], .bool false, .agg #[.int .i64 kd, .string U, .slice ka KN kc], .map (some m), .bool true, .bool false, undef, undef, undef, .bool (!bt), .slice (some ⟨f, 0, none⟩) n n, .int .i64 (x.1 : Int), .slice (some ⟨f, 0, none⟩) x.1 n, .pointer (some ⟨Bx, 2, none⟩), .slice ka KN kc, .bool bt, .bool (!bt), undef, undef, undef, undef, undef, undef, undef, undef, undef, undef, undef, undef, undef, undef, undef, undef, undef], defers := [] } ?_ (fun listed W' => (listed.getD 5 false = false → W' = X1.drew) ∧ (listed.getD 5 false = true → X1.drew.grownBy W' (some f) ∧ Row W' f 4 (bools TL))) ?_ ?_ ?_
          · kernel_rfl
          · exact ⟨fun _ => rfl, fun h => absurd h (by rw [rep_getD]; decide)⟩
          · intro i oo listed a' w' ho hsz hu haf hS hJ
            have hi : i < 8 := (Array.getElem?_eq_some_iff.1 ho).1
            change listed.size = 8 at hsz
            have hnx : ∀ i, i < 8 → i ≠ 5 → ((listed.setIfInBounds i true).getD 5 false = false → w' = X1.drew) ∧ ((listed.setIfInBounds i true).getD 5 false = true → X1.drew.grownBy w' (some f) ∧ Row w' f 4 (bools TL)) := fun i hi h1 => by
              rw [getD_set _ _ _ _ (by rw [hsz]; exact hi), if_neg h1]
              exact hJ
            obtain rfl | rfl | rfl | rfl | rfl | rfl | rfl | rfl : i = 0 ∨ i = 1 ∨ i = 2 ∨ i = 3 ∨ i = 4 ∨ i = 5 ∨ i = 6 ∨ i = 7 := by omega
            · cases ho
              have q5 : a'.tmps[5]? = some (.pointer (some ⟨p2, 0, none⟩)) := (hS.tmpBase 5 (by kernel_rfl)).trans rfl
              obtain ⟨k0, _⟩ := HC.out _ _ hJ
              refine op_val (.slice (some ⟨f, 0, none⟩) n n) w' (fun _ _ => trivial) ?_ ⟨rfl, hnx 0 (by omega) (by omega)⟩
              rw [Oper.semAt_plain _ _ _ (by intro c h; cases h)]
              simp [execOp, q5, k0, go_sem]
            · cases ho
              have q6 : a'.tmps[6]? = some (.int .i64 (x.1 : Int)) := (hS.tmpBase 6 (by kernel_rfl)).trans rfl
              refine op_val (.int .i64 (x.1 : Int)) w' (fun _ _ => trivial) ?_ ⟨rfl, hnx 1 (by omega) (by omega)⟩
              rw [Oper.semAt_plain _ _ _ (by intro c h; cases h)]
              simp [execOp, q6, go_sem]
            · cases ho
              have q43 : a'.tmps[43]? = some (.slice (some ⟨f, 0, none⟩) n n) := hS.tmpSet 0 _ 43 rfl rfl (by simp) (haf ⟨0, .data⟩ (Array.mem_of_getElem? (i := 0) rfl) rfl)
              have q44 : a'.tmps[44]? = some (.int .i64 (x.1 : Int)) := hS.tmpSet 1 _ 44 rfl rfl (by simp) (haf ⟨1, .data⟩ (Array.mem_of_getElem? (i := 1) rfl) rfl)
              refine op_val (.slice (some ⟨f, 0, none⟩) x.1 n) w' (fun _ _ => trivial) ?_ ⟨rfl, hnx 2 (by omega) (by omega)⟩
              rw [Oper.semAt_plain _ _ _ (by intro c h; cases h)]
              simp [execOp, q43, q44, go_sem, hx1]
            · cases ho
              have q7 : a'.tmps[7]? = some (.pointer (some ⟨Bx, 0, none⟩)) := (hS.tmpBase 7 (by kernel_rfl)).trans rfl
              refine op_val (.pointer (some ⟨Bx, 2, none⟩)) w' (fun _ _ => trivial) ?_ ⟨rfl, hnx 3 (by omega) (by omega)⟩
              rw [Oper.semAt_plain _ _ _ (by intro c h; cases h)]
              simp [execOp, q7, go_sem]
            · cases ho
              have q46 : a'.tmps[46]? = some (.pointer (some ⟨Bx, 2, none⟩)) := hS.tmpSet 3 _ 46 rfl rfl (by simp) (haf ⟨3, .data⟩ (Array.mem_of_getElem? (i := 0) rfl) rfl)
              obtain ⟨_, k1⟩ := HC.out _ _ hJ
              refine op_val (.slice ka KN kc) w' (fun _ _ => trivial) ?_ ⟨rfl, hnx 4 (by omega) (by omega)⟩
              rw [Oper.semAt_plain _ _ _ (by intro c h; cases h)]
              simp [execOp, q46, k1, go_sem]
            · cases ho
              have q45 : a'.tmps[45]? = some (.slice (some ⟨f, 0, none⟩) x.1 n) := hS.tmpSet 2 _ 45 rfl rfl (by simp) (haf ⟨2, .data⟩ (Array.mem_of_getElem? (i := 0) rfl) rfl)
              have q47 : a'.tmps[47]? = some (.slice ka KN kc) := hS.tmpSet 4 _ 47 rfl rfl (by simp) (haf ⟨4, .data⟩ (Array.mem_of_getElem? (i := 1) rfl) rfl)
              refine op_call 48 #[.slice (some ⟨f, 0, none⟩) x.1 n, .slice ka KN kc] (fun _ _ => trivial) ?_ (by omega) ((CallsIn.inRound l (callsIn_wide.2 (HTK2.out w' (hJ.1 hu)))).mono ?_)
              · rw [Oper.semAt_plain _ _ _ (by intro c h; cases h)]
                simp [execOp, q45, q47, go_sem]
              · rintro e w5 ⟨rfl, hr5, hg5⟩
                refine ⟨_, rfl, rfl, fun h => ?_, fun _ => ⟨hg5, hr5⟩⟩
                rw [getD_set _ _ _ _ (by rw [hsz]; decide), if_pos rfl] at h
                cases h
            · cases ho
              have q48 : a'.tmps[48]? = some (.bool bt) := hS.tmpSet 5 _ 48 rfl rfl (by simp) (haf ⟨5, .data⟩ (Array.mem_of_getElem? (i := 0) rfl) rfl)
              refine op_val (.bool (!bt)) w' (fun _ _ => trivial) ?_ ⟨rfl, hnx 6 (by omega) (by omega)⟩
              rw [Oper.semAt_plain _ _ _ (by intro c h; cases h)]
              simp [execOp, q48, go_sem]
            · cases ho
              have q49 : a'.tmps[49]? = some (.bool (!bt)) := hS.tmpSet 6 _ 49 rfl rfl (by simp) (haf ⟨6, .data⟩ (Array.mem_of_getElem? (i := 0) rfl) rfl)
              refine op_val (.bool (!bt)) w' (fun _ _ => trivial) ?_ ⟨rfl, hnx 7 (by omega) (by omega)⟩
              rw [Oper.semAt_plain _ _ _ (by intro c h; cases h)]
              simp [execOp, q49, go_sem]
          · intro listed W5 hl hJ
            obtain ⟨hg5, hr5⟩ := hJ.2 (hl 5 (by decide))
            have hf5 : w.heap.size ≤ f := by omega
            have hg6 : X1.grownBy W5 (some f) := ⟨hg5.os, hg5.tape, hg5.output, hg5.size, hg5.block⟩
            have hc5 := HC1.out.grown HF2.out (.inl rfl) hf5 hg6
            have he5 := row_grown HE1.out hg6 (fun e => by injection e with e; exact row_apart HE1.out HF2.out (by decide) e.symm)
            have hk5 : KeepsFrom W0.heap.size X W5 := (keeps_below _ HB1.out).trans (keeps_row _ HF2.out hg6)
            have cE5 := he5.cell 0
            have fE5 := he5.frozen 0
            simp only [List.getElem?_toArray, List.getElem?_cons_zero] at cE5
            have HC5 := Lib.hid hc5
            have HE5 := Lib.hid he5
            have HK5 := Lib.hid hk5
            have HR5 := Lib.hid hr5
            have hbX5 : Below w.heap.size X W5 := below_grown (HB1.out.mono (by omega)) (by have := HB1.out.size; omega) hg6 hf5
            have HBX5 := Lib.hid hbX5
            rename_i Q9 K9 hK9
            refine hK9 _ _ ?_
            clear hJ hl hg5 hr5 hg6 hc5 he5 hk5 hbX5 hK9
            have hN := HN.out
            have hxle : x.1 ≤ n := Nat.le_of_lt x.2
            cases bt with
            | false =>
              have HNO : Hid (rightB T = false) := Lib.hid (CK.taken HX.out hxle HBT.out.symm)
              clear hN
              gi_wp2
              exact ⟨HK5.out.trans ((KeepsOthers.setCell _ _ _).from _), rfl, HC5.out.grown HE5.out (.inr rfl) (by omega) (grown_set _ _ _ _), ⟨_, _, HE5.out.set 0 _⟩, ⟨_, HR5.out.other (row_apart HR5.out HE5.out (by decide)) _, by rw [HTL.out, take_len, free_len]⟩, HNO.out⟩
            | true =>
              have hnx := HCK.out.next HX.out hxle HBF.out.symm HBT.out.symm
              rw [← HTL.out] at hnx
              have HNX := Lib.hid hnx
              clear hnx hN
              gi_wp2
              exact ⟨HK5.out, HBX5.out, HC5.out, HE5.out, TL, HR5.out, by rw [HTL.out, take_len, free_len], fun _ => by rw [List.length_append, HPRE.out]; exact HNX.out⟩
      case done =>
        rintro D xs X hD hxs hI hKD
        clear hN
        have hin : InOrder xs ∧ xs.length = n := inOrder_of hxs
        obtain ⟨L, f1, f2, f3⟩ := hI.fr
        obtain ⟨hck, hL⟩ := f3 (by rw [hin.2]; exact hxs)
        have hTn : T.take n = T := by rw [HN.out]; exact List.take_length
        rw [hin.2] at hck hL
        rw [hTn] at hL
        subst hL
        have HCK := Lib.hid hck
        have HI := Lib.hid hI
        have HIX := Lib.hid (index_c X f n n (freeL n (allKids T)) f1 (free_len _ _) (by omega))
        have c2 := hI.ci.b2.cell 0
        have ct := hI.ci.tr.cell 0
        have cE := hI.er.cell 0
        have fE := hI.er.frozen 0
        simp only [List.getElem?_toArray, List.getElem?_cons_zero] at c2 ct cE
        have HKD := Lib.hid hKD
        have HROOT : Hid (∀ i : Nat, n ≤ i + 1 → i < n → (freeL n (allKids T))[i]? = some true) := Lib.hid (fun i h1 h2 => by
          rw [free_at _ h2]
          have : (i : Int) ∉ allKids T := fun e => by have := (hck.root HN.out.symm _ e).2; omega
          simp [this])
        clear hin hTn hck f1 f2 f3 hI hKD
        refine hK2 _ _ ?_
        clear hK2
        gi_wp2_with fail
        refine ⟨trivial, ?_⟩
        gi_at_call 49
        refine (callsIn_wide.2 HIX.out).mono ?_
        rintro e X1 ⟨⟨r, rfl, hr⟩, rfl⟩
        rcases hr with ⟨i, rfl, hi, hall⟩ | ⟨_, hall⟩
        · have hin : i < n := by
            have := (List.getElem?_eq_some_iff.1 hi).1
            rw [free_len] at this
            exact this
          have hnot : (i : Int) ∉ allKids T := fun e => by
            rw [free_at _ hin] at hi
            simp [e] at hi
          by_cases hlt : i + 1 < n
          · have HNO : Hid (R = false) := Lib.hid (by rw [HR.out]; exact CK.lone (by rw [← HN.out]; exact hlt) hnot)
            have g1 : (i : Int) < (n : Int) - 1 := by omega
            clear hi hall hnot
            gi_wp2_with fail
            refine ⟨trivial, ?_⟩
            gi_at_call 31
            refine (callsIn_wide.2 (root_c _ _ _ _ (by omega))).mono ?_
            rintro e X2 ⟨rfl, hX2⟩
            have he2 : Row X2 (w.heap.size + 1) 45 #[.nilIface] := by rw [hX2]; exact HI.out.er.alloc _
            have hk2 : X2.heap[D]? = some (.deferred (some [])) := by rw [hX2]; exact (Below.heap_alloc _ _ D (Array.getElem?_eq_some_iff.1 HKD.out).1).trans HKD.out
            have hb2 : Below w.heap.size w X2 := by rw [hX2]; exact HI.out.ci.below.alloc (by have := HI.out.ci.size; omega) _
            have hDn : D ≠ w.heap.size + 1 := fun e => by
              rw [e, show X2.heap[w.heap.size + 1]? = _ from he2] at hk2
              cases hk2
            have cE2 := he2.cell 0
            have fE2 := he2.frozen 0
            simp only [List.getElem?_toArray, List.getElem?_cons_zero] at cE2
            have HE2 := Lib.hid he2
            have HK2 := Lib.hid hk2
            have HB2 := Lib.hid hb2
            clear hX2 he2 hk2 hb2 cE fE c2 ct
            gi_wp2
            rw [Exit.noGoto_ret]
            have hk3 : (X2.setCell ⟨w.heap.size + 1, 0, none⟩ (wrongV (i : Int) ⟨#[105, 116, 32, 105, 115, 32, 110, 111, 98, 111, 100, 121, 39, 115, 32, 107, 105, 100]⟩)).heap[D]? = some (.deferred (some [])) := (Below.heap_setCell _ _ _ _ hDn).trans HK2.out
            unfold wrongV at hk3
            refine ⟨by simp, .inl ⟨_, _, rfl, run_takeDeferred hk3, ?_⟩⟩
            refine ⟨wrongV (i : Int) ⟨#[105, 116, 32, 105, 115, 32, 110, 111, 98, 111, 100, 121, 39, 115, 32, 107, 105, 100]⟩, ?_, below_drop (d' := none) (HB2.out.setCell (p := ⟨w.heap.size + 1, 0, none⟩) (by dsimp only; omega) _) (by omega) hk3, .inr ⟨HNO.out, _, _, rfl⟩⟩
            simp [results, Tryd.f28, go_sem, wrongV]
          · have HYES : Hid (R = true) := Lib.hid (by
              rw [HR.out]
              refine CK.right HN.out.symm HCK.out (by omega) (by omega) (fun j hj => ?_)
              have h9 := hall j (by omega)
              rw [free_at _ (by omega)] at h9
              simpa using h9)
            have g1 : ¬ (i : Int) < (n : Int) - 1 := by omega
            clear hi hall hnot
            gi_wp2_with fail
            refine ⟨trivial, ?_⟩
            gi_at_call 31
            refine (callsIn_wide.2 (root_c _ _ _ _ (by omega))).mono ?_
            rintro e X2 ⟨rfl, hX2⟩
            have he2 : Row X2 (w.heap.size + 1) 45 #[.nilIface] := by rw [hX2]; exact HI.out.er.alloc _
            have hk2 : X2.heap[D]? = some (.deferred (some [])) := by rw [hX2]; exact (Below.heap_alloc _ _ D (Array.getElem?_eq_some_iff.1 HKD.out).1).trans HKD.out
            have hb2 : Below w.heap.size w X2 := by rw [hX2]; exact HI.out.ci.below.alloc (by have := HI.out.ci.size; omega) _
            have hDn : D ≠ w.heap.size + 1 := fun e => by
              rw [e, show X2.heap[w.heap.size + 1]? = _ from he2] at hk2
              cases hk2
            have cE2 := he2.cell 0
            have fE2 := he2.frozen 0
            simp only [List.getElem?_toArray, List.getElem?_cons_zero] at cE2
            have HE2 := Lib.hid he2
            have HK2 := Lib.hid hk2
            have HB2 := Lib.hid hb2
            clear hX2 he2 hk2 hb2 cE fE c2 ct
            gi_wp2
            rw [Exit.noGoto_ret]
            refine ⟨by simp, .inl ⟨_, _, rfl, run_takeDeferred HK2.out, ?_⟩⟩
            refine ⟨.nilIface, ?_, below_drop (d' := none) HB2.out (by omega) HK2.out, .inl ⟨HYES.out, rfl⟩⟩
            simp [results, Tryd.f28, go_sem]
        · exfalso
          have h9 := hall (n - 1) (by rw [free_len]; omega)
          rw [HROOT.out (n - 1) (by omega) (by omega)] at h9
          cases h9
      case stop =>
        rintro D c pre X hD _ hI hKD
        clear hN
        obtain ⟨rfl, hci, ⟨a, s, her⟩, ⟨L, f1, f2⟩, hno⟩ := hI
        have HNO : Hid (R = false) := Lib.hid (HR.out.trans hno)
        have HIX := Lib.hid (index_c X f n n L f1 f2 (by omega))
        have HCI := Lib.hid hci
        have c2 := hci.b2.cell 0
        have ct := hci.tr.cell 0
        have cE := her.cell 0
        have fE := her.frozen 0
        simp only [List.getElem?_toArray, List.getElem?_cons_zero] at c2 ct cE
        have HKD := Lib.hid hKD
        unfold wrongV at cE
        clear hci her f1 f2 hno hKD
        gi_wp2_with fail
        refine ⟨trivial, ?_⟩
        gi_at_call 49
        refine (callsIn_wide.2 HIX.out).mono ?_
        rintro e X1 ⟨⟨r, rfl, hr⟩, rfl⟩
        clear hr
        gi_wp2_with (refine ⟨trivial, ?_⟩)
        rw [Exit.noGoto_ret]
        refine ⟨by simp, .inl ⟨_, _, rfl, run_takeDeferred HKD.out, ?_⟩⟩
        refine ⟨wrongV a s, ?_, below_drop (d' := none) HCI.out.below (by omega) HKD.out, .inr ⟨HNO.out, _, _, rfl⟩⟩
        simp [results, Tryd.f28, go_sem, wrongV]
end Go.Proofs.YtbegplfijjbpcaaDoor.No
