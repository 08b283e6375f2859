/- How deep each place is: what opens, what closes, and the iterator (by wip/gen/gr_dep.py). -/
import Derived.Test.YthbiflmmlcmncaaDoorGrMc
import Derived.Test.YthbiflmmlcmncaaDoorGyA
import Derived.Test.YthbiflmmlcmncaaDoorGyE
namespace Go.Proofs.YthbiflmmlcmncaaDoor.Ti
open Go Go.RowKit Go.Shelf
attribute [local go_sem] Oper.semAt_some

set_option maxRecDepth 100000 in
set_option maxHeartbeats 1000000 in
theorem closes_p (w : World) (g n cap k : Nat) (z : Int) (hk : k < n) (hz : w.cell? ⟨g, k, none⟩ = some (.int .i64 z)) :
    Calls Tryd.prog 44 #[.slice (some ⟨g, 0, none⟩) n cap, .int .i64 (k : Int)] w fun e W' => e = .returned (.bool (decide (¬ z = -1 ∧ z < (k : Int)))) ∧ W' = w := by
  have t1 : (k : Int) < (n : Int) := by omega
  by_cases h1 : z = -1
  · have h2 : (z == -1) = true := by simpa using h1
    go_enter Tryd.func44, Tryd.ntmps44
    go_wp2
    go_ret
    exact ⟨by simp [h1], rfl⟩
  · have h2 : (z == -1) = false := by simpa using h1
    by_cases h3 : z < (k : Int)
    · go_enter Tryd.func44, Tryd.ntmps44
      go_wp2
      go_ret
      exact ⟨by simp [h1, h3], rfl⟩
    · go_enter Tryd.func44, Tryd.ntmps44
      go_wp2
      go_ret
      exact ⟨by simp [h3], rfl⟩
set_option maxRecDepth 100000 in
set_option maxHeartbeats 1000000 in
theorem opens_p (w : World) (g n cap k : Nat) (z : Int) (hk : k < n) (hz : w.cell? ⟨g, k, none⟩ = some (.int .i64 z)) :
    Calls Tryd.prog 36 #[.slice (some ⟨g, 0, none⟩) n cap, .int .i64 (k : Int)] w fun e W' => e = .returned (.bool (decide ((k : Int) < z))) ∧ W' = w := by
  have t1 : (k : Int) < (n : Int) := by omega
  have t2 : ¬ (k : Int) < 0 := by omega
  by_cases h3 : (k : Int) < z
  · go_enter Tryd.func36, Tryd.ntmps36
    go_wp2
    go_ret
    exact ⟨rfl, rfl⟩
  · go_enter Tryd.func36, Tryd.ntmps36
    go_wp2
    go_ret
    exact ⟨by simp [h3], rfl⟩
set_option maxRecDepth 100000 in
set_option maxHeartbeats 1000000 in
theorem opens_out (w : World) (a0 : Option Addr) (n cap : Nat) (z : Int) (h : ¬ (0 ≤ z ∧ z < (n : Int))) :
    Calls Tryd.prog 36 #[.slice a0 n cap, .int .i64 z] w fun e W' => e = .returned (.bool false) ∧ W' = w := by
  by_cases h1 : 0 ≤ z
  · have h2 : ¬ z < (n : Int) := fun e => h ⟨h1, e⟩
    go_enter Tryd.func36, Tryd.ntmps36
    go_wp2
    go_ret
    exact ⟨rfl, rfl⟩
  · go_enter Tryd.func36, Tryd.ntmps36
    go_wp2
    go_ret
    exact ⟨rfl, rfl⟩

def encD (L : List Tk) {len : Nat} (x : Ix len) : Array Value := #[.int .i64 (x.1 : Int), .int .i64 ((depT L x.1 : Nat) : Int)]
/-- The two blocks that the iterator reads are as they were. -/
def KeepD (Bp g : Nat) (W W' : World) : Prop := W.heap.size ≤ W'.heap.size ∧ W'.heap[Bp]? = W.heap[Bp]? ∧ W'.heap[g]? = W.heap[g]?
theorem KeepD.trans {Bp g : Nat} {A B C : World} (h : KeepD Bp g A B) (k : KeepD Bp g B C) : KeepD Bp g A C := ⟨Nat.le_trans h.1 k.1, k.2.1.trans h.2.1, k.2.2.trans h.2.2⟩
theorem KeepD.below {Bp g : Nat} {W W' : World} (h : Below W.heap.size W W') (h1 : Bp < W.heap.size) (h2 : g < W.heap.size) : KeepD Bp g W W' := ⟨h.size, h.block Bp h1, h.block g h2⟩
theorem KeepD.put {Bp g l : Nat} {W : World} (h1 : Bp < l) (h2 : g < l) (o : Obj) : KeepD Bp g W (W.putObj l o) := ⟨by simp [World.putObj], World.putObj_heap_other (by omega), World.putObj_heap_other (by omega)⟩

set_option maxRecDepth 100000 in
set_option maxHeartbeats 4000000 in
theorem dep1_in (l Bp n g cap : Nat) (L : List Tk) (ps : List (Nat × Nat)) (hL : L.length = n) (hn1 : n ≤ 1000) (hs : stAt L n = some ([], ps))
    (J Jx : List (Ix n) → World → Prop) (W : World)
    (hY : ∀ pre x X, J pre X → pre.map (·.1) = List.range x.1 → W.heap.size ≤ X.heap.size → YieldAt Fence.wide 3 Tryd.prog l (encD L x) X fun e W' =>
      (e = .returned (.bool true) ∧ J (pre ++ [x]) W' ∧ KeepD Bp g X W') ∨ (e = .returned (.bool false) ∧ Jx (pre ++ [x]) W'))
     (hB : W.cell? ⟨Bp, 0, none⟩ = some (.slice (some ⟨g, 0, none⟩) n cap)) (hc : ∀ k, k < n → W.cell? ⟨g, k, none⟩ = some (.int .i64 (part ps k))) (h0 : J [] W) :
    CallsIn Fence.wide 4 Tryd.prog 43 #[.func (.yield l) #[] #[], .pointer (some ⟨Bp, 0, none⟩)] W fun e W' => (∃ v, e = .returned v) ∧
      ((∃ ys : List (Ix n), ys.map (·.1) = List.range n ∧ J ys W') ∨ (∃ pre : List (Ix n), (∃ k, k ≤ n ∧ pre.map (·.1) = List.range k) ∧ Jx pre W')) := by
  have hI : Inv L L.length ([], ps) := inv_at L L.length _ (Nat.le_refl _) (by rw [hL]; exact hs)
  have hdp : ∀ k, k ≤ n → dpt L k ≤ 1000 := fun k hk => by
    obtain ⟨s, q⟩ := stAt_some (k := k) (by rw [hL]; exact hs) (by omega)
    rw [dpt_some q]
    have := st_len k s (by omega) q
    omega
  have hst : ∀ k, k < n → ∃ u, stAt L (k + 1) = some u := fun k hk => stAt_some (k := k + 1) (by rw [hL]; exact hs) (by omega)
  have HI := Lib.hid hI
  have HDP := Lib.hid hdp
  have HST := Lib.hid hst
  have HC := Lib.hid hc
  clear hI hdp hst hc
  refine callsIn_of_wp Tryd.func43 rfl trivial ?_ rfl
  simp only [Tryd.ntmps43, List.size_toArray, List.length_cons, List.length_nil, Nat.reduceAdd, Nat.reduceSub, Array.replicate_succ, Array.replicate_zero, List.push_toArray, List.append_toArray, List.nil_append, List.cons_append]
  gi_wp2
  gi_loopw [3, 4, 7] (fun d _ i wr => ∃ (k : Nat) (pre : List (Ix n)), k ≤ n ∧ i = .int .i64 k ∧ d = .int .i64 (dpt L k : Int) ∧ pre.map (·.1) = List.range k ∧ J pre wr ∧ KeepD Bp g W wr)
    (fun _ _ i _ => n - (intOf i).toNat)
  case atStart => exact ⟨0, [], Nat.zero_le _, rfl, rfl, rfl, h0, ⟨Nat.le_refl _, rfl, rfl⟩⟩
  case round =>
    obtain ⟨k, pre, hk, rfl, rfl, hpre, hJs, hkd⟩ := hrel
    by_cases hlt : k < n
    · have hkcell : ∀ X, KeepD Bp g W X → X.cell? ⟨Bp, 0, none⟩ = some (.slice (some ⟨g, 0, none⟩) n cap) ∧ X.cell? ⟨g, k, none⟩ = some (.int .i64 (part ps k)) := fun X hx =>
        ⟨(World.cell?_of_block (w := W) (a := ⟨Bp, 0, none⟩) hx.2.1).trans hB, (World.cell?_of_block (w := W) (a := ⟨g, k, none⟩) hx.2.2).trans (HC.out k hlt)⟩
      obtain ⟨x0, x1⟩ := hkcell wr hkd
      have HKC := Lib.hid hkcell
      have ht : L[k]? = some (tokAt L k) := tokAt_of (by omega)
      obtain ⟨u, hu⟩ := HST.out k hlt
      obtain ⟨d1, d2, d3⟩ := dpt_step ht hu
      obtain ⟨p1, p2, p3⟩ := HI.out.tells ht
      have hda := depT_at ht
      have hy0 := hY pre ⟨k, hlt⟩ wr hJs hpre hkd.1
      unfold encD at hy0
      dsimp only at hy0
      have HP : Hid ((pre ++ [(⟨k, hlt⟩ : Ix n)]).map (·.1) = List.range (k + 1)) := range_snoc hpre hlt
      have hb1 := HDP.out k (by omega)
      have hb2 := HDP.out (k + 1) (by omega)
      have t1 : (k : Int) < (n : Int) := by omega
      obtain ⟨z, hz⟩ : ∃ z, z = part ps k := ⟨_, rfl⟩
      obtain ⟨D, hD⟩ : ∃ D, D = dpt L k := ⟨_, rfl⟩
      obtain ⟨D', hD'⟩ : ∃ D, D = dpt L (k + 1) := ⟨_, rfl⟩
      rw [← hz] at x1 p1 p2 p3 HKC
      rw [← hD] at d1 d2 d3 hda hb1 ⊢
      rw [← hD'] at d1 d2 d3 hda hb2
      have hcl := closes_p wr g n cap k z hlt x1
      have hop := fun X hx => opens_p X g n cap k z hlt (HKC.out X hx).2
      have HKD := Lib.hid hkd
      clear hkcell hpre hz hD hkd ht hu
      by_cases hO : isO (tokAt L k) = true
      · obtain ⟨b, _, e1, e2, _⟩ := p1 hO
        have hD2 : D' = D + 1 := d1 hO
        rw [isO_isC hO] at hda
        simp only [Bool.false_eq_true, if_false] at hda
        rw [hda] at hy0
        have q1 : decide (¬ z = -1 ∧ z < (k : Int)) = false := by simp; omega
        have q2 : decide ((k : Int) < z) = true := by simp; omega
        rw [q1] at hcl
        simp only [q2] at hop
        have HCL := Lib.hid hcl
        have HOP := Lib.hid hop
        have HD' := Lib.hid hD'
        clear hcl hop q1 q2 d1 d2 d3 p1 p2 p3 hda hD'
        obtain ⟨fn, tmps, assign, body, hy, hR⟩ := hy0
        gi_wp2_with (refine ⟨trivial, ?_⟩; gi_at_call 44; refine (callsIn_wide.2 HCL.out).mono ?_; rintro e w' ⟨rfl, rfl⟩)
        refine hR.mono ?_
        rintro e W3 (⟨rfl, hJ3, hk3⟩ | ⟨rfl, hJx3⟩)
        · obtain ⟨x0', x1'⟩ := HKC.out W3 (HKD.out.trans hk3)
          have HO3 := Lib.hid (HOP.out W3 (HKD.out.trans hk3))
          gi_wp2_with (refine ⟨trivial, ?_⟩; gi_at_call 36; refine (callsIn_wide.2 HO3.out).mono ?_; rintro e w' ⟨rfl, hw⟩; obtain rfl := hw.symm; clear hw)
          go_roundw
          case rel => exact ⟨k + 1, pre ++ [⟨k, hlt⟩], by omega, by simp, by first | (rw [← HD'.out]; congr 1; omega) | rw [← HD'.out], HP.out, hJ3, HKD.out.trans hk3⟩
          case measure => simp [intOf]; omega
        · gi_wp2
          refine bodyPost_ret (results_none rfl _ _ _) rfl ?_
          exact ⟨⟨_, rfl⟩, .inr ⟨_, ⟨k + 1, by omega, HP.out⟩, hJx3⟩⟩
      · have hO' : isO (tokAt L k) = false := by simpa using hO
        by_cases hC : isC (tokAt L k) = true
        · obtain ⟨a, _, e1, e2⟩ := p2 hC
          have hD2 : D = D' + 1 := d2 hO' hC
          rw [hC] at hda
          simp only [if_true] at hda
          rw [hda] at hy0
          have q1 : decide (¬ z = -1 ∧ z < (k : Int)) = true := by simp; omega
          have q2 : decide ((k : Int) < z) = false := by simp; omega
          rw [q1] at hcl
          simp only [q2] at hop
          have HCL := Lib.hid hcl
          have HOP := Lib.hid hop
          have HD' := Lib.hid hD'
          clear hcl hop q1 q2 d1 d2 d3 p1 p2 p3 hda hD'
          obtain ⟨fn, tmps, assign, body, hy, hR⟩ := hy0
          gi_wp2_with (refine ⟨trivial, ?_⟩; gi_at_call 44; refine (callsIn_wide.2 HCL.out).mono ?_; rintro e w' ⟨rfl, rfl⟩)
          refine hR.mono ?_
          rintro e W3 (⟨rfl, hJ3, hk3⟩ | ⟨rfl, hJx3⟩)
          · obtain ⟨x0', x1'⟩ := HKC.out W3 (HKD.out.trans hk3)
            have HO3 := Lib.hid (HOP.out W3 (HKD.out.trans hk3))
            gi_wp2_with (refine ⟨trivial, ?_⟩; gi_at_call 36; refine (callsIn_wide.2 HO3.out).mono ?_; rintro e w' ⟨rfl, hw⟩; obtain rfl := hw.symm; clear hw)
            go_roundw
            case rel => exact ⟨k + 1, pre ++ [⟨k, hlt⟩], by omega, by simp, by first | (rw [← HD'.out]; congr 1; omega) | rw [← HD'.out], HP.out, hJ3, HKD.out.trans hk3⟩
            case measure => simp [intOf]; omega
          · gi_wp2
            refine bodyPost_ret (results_none rfl _ _ _) rfl ?_
            exact ⟨⟨_, rfl⟩, .inr ⟨_, ⟨k + 1, by omega, HP.out⟩, hJx3⟩⟩
        · have hC' : isC (tokAt L k) = false := by simpa using hC
          have e1 := p3 hO' hC'
          have hD2 : D' = D := d3 hO' hC'
          rw [hC'] at hda
          simp only [Bool.false_eq_true, if_false] at hda
          rw [hda] at hy0
          have q1 : decide (¬ z = -1 ∧ z < (k : Int)) = false := by simp [e1]
          have q2 : decide ((k : Int) < z) = false := by simp; omega
          rw [q1] at hcl
          simp only [q2] at hop
          have HCL := Lib.hid hcl
          have HOP := Lib.hid hop
          have HD' := Lib.hid hD'
          clear hcl hop q1 q2 d1 d2 d3 p1 p2 p3 hda hD'
          obtain ⟨fn, tmps, assign, body, hy, hR⟩ := hy0
          gi_wp2_with (refine ⟨trivial, ?_⟩; gi_at_call 44; refine (callsIn_wide.2 HCL.out).mono ?_; rintro e w' ⟨rfl, rfl⟩)
          refine hR.mono ?_
          rintro e W3 (⟨rfl, hJ3, hk3⟩ | ⟨rfl, hJx3⟩)
          · obtain ⟨x0', x1'⟩ := HKC.out W3 (HKD.out.trans hk3)
            have HO3 := Lib.hid (HOP.out W3 (HKD.out.trans hk3))
            gi_wp2_with (refine ⟨trivial, ?_⟩; gi_at_call 36; refine (callsIn_wide.2 HO3.out).mono ?_; rintro e w' ⟨rfl, hw⟩; obtain rfl := hw.symm; clear hw)
            go_roundw
            case rel => exact ⟨k + 1, pre ++ [⟨k, hlt⟩], by omega, by simp, by first | (rw [← HD'.out]; congr 1; omega) | rw [← HD'.out], HP.out, hJ3, HKD.out.trans hk3⟩
            case measure => simp [intOf]; omega
          · gi_wp2
            refine bodyPost_ret (results_none rfl _ _ _) rfl ?_
            exact ⟨⟨_, rfl⟩, .inr ⟨_, ⟨k + 1, by omega, HP.out⟩, hJx3⟩⟩
    · obtain rfl : k = n := by omega
      have HQ : Hid (pre.map (·.1) = List.range k) := hpre
      clear hpre
      gi_wp2
      go_end0
      exact ⟨⟨_, rfl⟩, .inl ⟨pre, HQ.out, hJs⟩⟩

/-- p.depths() goes through all places, each with how deep it is. -/
theorem dep_stops (Bp n g cap : Nat) (L : List Tk) (ps : List (Nat × Nat)) (hL : L.length = n) (hn1 : n ≤ 1000) (hs : stAt L n = some ([], ps))
    (w : World) (hBp : Bp < w.heap.size) (hg : g < w.heap.size) (hB : w.cell? ⟨Bp, 0, none⟩ = some (.slice (some ⟨g, 0, none⟩) n cap)) (hc : ∀ k, k < n → w.cell? ⟨g, k, none⟩ = some (.int .i64 (part ps k))) :
    SeqStopsT 31 Fence.wide 4 Tryd.prog 43 #[.pointer (some ⟨Bp, 0, none⟩)] (encD L) (KeepD Bp g) (fun ys : List (Ix n) => ys.map (·.1) = List.range n)
      (fun pre => ∃ k, k ≤ n ∧ pre.map (·.1) = List.range k) n w := fun l J Jx W hW _ _ hY h0 => by
  exact dep1_in l Bp n g cap L ps hL hn1 hs J Jx W (fun pre x X hJ ho hz => hY pre x X hJ (by rw [(inOrder_of ho).2]; exact x.2) hz) ((hW.cell (p := ⟨Bp, 0, none⟩) hBp).trans hB) (fun k hk => (hW.cell (p := ⟨g, k, none⟩) hg).trans (hc k hk)) h0
/-- The same, to a loop that wants to know the order. -/
theorem dep_stopsO (Bp n g cap : Nat) (L : List Tk) (ps : List (Nat × Nat)) (hL : L.length = n) (hn1 : n ≤ 1000) (hs : stAt L n = some ([], ps))
    (w : World) (hBp : Bp < w.heap.size) (hg : g < w.heap.size) (hB : w.cell? ⟨Bp, 0, none⟩ = some (.slice (some ⟨g, 0, none⟩) n cap)) (hc : ∀ k, k < n → w.cell? ⟨g, k, none⟩ = some (.int .i64 (part ps k))) :
    SeqStopsO 31 Fence.wide 4 Tryd.prog 43 #[.pointer (some ⟨Bp, 0, none⟩)] (encD L) (KeepD Bp g) (fun ys : List (Ix n) => ys.map (·.1) = List.range n)
      (fun pre => ∃ k, k ≤ n ∧ pre.map (·.1) = List.range k) (fun pre x => pre.map (·.1) = List.range x.1) w := fun l J Jx W hW _ _ hY h0 => by
  exact dep1_in l Bp n g cap L ps hL hn1 hs J Jx W hY ((hW.cell (p := ⟨Bp, 0, none⟩) hBp).trans hB) (fun k hk => (hW.cell (p := ⟨g, k, none⟩) hg).trans (hc k hk)) h0
set_option maxRecDepth 100000 in
theorem depths_in (F : Fence) (n : Nat) (hf : F.fn 32) (hro : F.round = none) (a : Option Addr) (k c : Nat) (w : World) :
    CallsIn F n Tryd.prog 32 #[.slice a k c] w fun e w' => e = .returned (.func (.func 43) #[] #[.pointer (some ⟨w.heap.size, 0, none⟩)]) ∧ w' = w.alloc (.cells #[.slice a k c] 45) := by
  refine callsIn_of_wp Tryd.func32 rfl hf ?_ hro
  simp only [Tryd.ntmps32, List.size_toArray, List.length_cons, List.length_nil, Nat.reduceAdd, Nat.reduceSub, Array.replicate_succ, Array.replicate_zero, List.push_toArray, List.append_toArray, List.nil_append, List.cons_append]
  gi_wp2
  go_ret
  exact ⟨rfl, rfl⟩
end Go.Proofs.YthbiflmmlcmncaaDoor.Ti
