/- The call Deep: its answer, as the plain one has it (by wip/gen/gr_dee.py). -/
import Derived.Test.YthbiflmmlcmncaaDoorGyG
namespace Go.Proofs.YthbiflmmlcmncaaDoor.Ti
open Go Go.RowKit Go.Shelf
attribute [local go_sem] Oper.semAt_some

def lstD (L : List Tk) {n : Nat} (pre : List (Ix n)) : List Int := pre.map fun x => ((depT L x.1 : Nat) : Int)
theorem lstD_all {L : List Tk} {n : Nat} {pre : List (Ix n)} (h : pre.map (·.1) = List.range n) : lstD L pre = deps L n := by
  unfold lstD deps
  rw [← h, List.map_map]
  rfl
/-- What the loop keeps: the list so far, in its box; the iterator's box. -/
structure DI (w1 : World) (B1 Bb Bp n : Nat) (pv : Value) (L : List Tk) (pre : List (Ix n)) (W : World) : Prop where
  ex : ∃ v, Row W Bb 25 #[v] ∧ W.ownsRow B1 3 1 v pre.length (nums (lstD L pre))
  rp : Row W Bp 45 #[pv]
  below : Below B1 w1 W
theorem DI.still {w1 : World} {B1 Bb Bp n : Nat} {pv : Value} {L : List Tk} {pre : List (Ix n)} {W W' : World} (q : DI w1 B1 Bb Bp n pv L pre W) (hs : Still W W') (hb : Below B1 W W') : DI w1 B1 Bb Bp n pv L pre W' := by
  obtain ⟨v, h1, h2⟩ := q.ex
  exact ⟨⟨v, Row.still h1 (by decide) hs, own_still h2 (by decide) hs⟩, Row.still q.rp (by decide) hs, q.below.trans hb⟩

set_option maxRecDepth 100000 in
set_option maxHeartbeats 8000000 in
/-- Deep(l). -/
theorem gdeep_c (w : World) (hG : EG w) (v : Value) (L : List Tk) (hT : TL w v L) (hl : L.length ≤ 1000) :
    Calls Tryd.prog 14 #[v] w fun e W' => ∃ v', e = .returned (.tuple #[v', .int .i64 ((errA L : Nat) : Int)]) ∧ IOwn W' w.heap.size v' (deepA L) ∧ Below w.heap.size w W' := by
  have HP := Lib.hid (partners_c w v L hT hl)
  obtain ⟨a0, c0, rfl, hc1, hc2⟩ := hT.form
  obtain ⟨i0, hi, hz0, hz1, hz2⟩ := infoI
  obtain ⟨n, hn⟩ : ∃ n, n = L.length := ⟨_, rfl⟩
  have HN := Lib.hid hn.symm
  rw [← hn] at hl HP ⊢
  unfold maxLen at hc2
  clear hT hc1 hn
  refine (callsIn_wide (n := 5)).1 ?_
  refine callsIn_of_wp_marks Tryd.func14 rfl trivial ?_ rfl
  simp only [Tryd.ntmps14, List.size_toArray, List.length_cons, List.length_nil, Nat.reduceAdd, Nat.reduceSub, Array.replicate_succ, Array.replicate_zero, List.push_toArray, List.append_toArray, List.nil_append, List.cons_append]
  gi_wp2
  refine ⟨trivial, ?_⟩
  refine (callsIn_wide.2 HP.out).mono ?_
  rintro e w1 ⟨hb1, ⟨h0, g, cap, ps, rfl, hs, ho⟩ | ⟨h0, a, rfl⟩⟩
  · have hown := ho
    change w1.ownsRow w.heap.size 3 1 _ (parts n ps).length _ at hown
    rw [parts_len] at hown
    have hg1 := hown.lt g rfl
    have hcell : ∀ W, Below w1.heap.size w1 W → ∀ k, k < n → W.cell? ⟨g, k, none⟩ = some (.int .i64 (part ps k)) := fun W hb k hk => by
      rw [(own_kept hown hb).cellAt k (by omega)]
      exact nums_at (parts_at ps hk)
    obtain ⟨B1, hB1⟩ : ∃ B, B = w1.heap.size := ⟨_, rfl⟩
    have HB1 := Lib.hid hB1
    have HB := Lib.hid hb1
    have HCELL := Lib.hid hcell
    have HS := Lib.hid hs
    have HE : Hid (errA L = 0) := Lib.hid h0
    have HG1 := Lib.hid hg1
    clear hb1 hcell hown ho hs h0 hg1 hB1 HP
    gi_wp2_with (first
      | (gi_at_make; refine wpListIn_make_own _ rfl _ _ 25 rfl w1.heap.size 3 i0 (.int .i64 0) 1 Tryd.underlying25 hi hz0 hz1 .i64 .i64 _ n rfl rfl rfl (by rw [hz2]; omega) (by unfold maxLen; omega) (Nat.le_refl _) ?_; intro w2 how2 hgw2; have HO2 := Lib.hid how2; have HG2 := Lib.hid hgw2; clear how2 hgw2)
      | (refine ⟨trivial, ?_⟩; gi_at_call 32; refine (depths_in _ 4 trivial rfl _ _ _ _).mono ?_; rintro e w' ⟨rfl, rfl⟩))
    rename_i Q' K hK
    obtain ⟨W0, hW0⟩ : ∃ W0, (w2.alloc (.cells #[.slice (some ⟨w1.heap.size, 0, none⟩) 0 n] 25)).alloc (.cells #[.slice (some ⟨g, 0, none⟩) n cap] 45) = W0 := ⟨_, rfl⟩
    have r1 : Row W0 w2.heap.size 25 #[.slice (some ⟨w1.heap.size, 0, none⟩) 0 n] := by rw [← hW0]; exact (Row.new _ _ _).alloc _
    have r2 : Row W0 (w2.heap.size + 1) 45 #[.slice (some ⟨g, 0, none⟩) n cap] := by rw [← hW0]; exact Row.at _ _ _ _ (by simp)
    have hs2 := HG2.out.size
    have hb2 : Below w1.heap.size w1 w2 := (Below.refl _ w1).grown HG2.out (Nat.le_refl _) (fun k e => by cases e)
    have hb0 : Below w1.heap.size w1 W0 := by rw [← hW0]; exact (hb2.alloc hs2 _).alloc (by simp; omega) _
    have hsz : W0.heap.size = w2.heap.size + 2 := by rw [← hW0]; simp
    have o0 : W0.ownsRow w1.heap.size 3 1 (.slice (some ⟨w1.heap.size, 0, none⟩) 0 n) 0 [] := by rw [← hW0]; exact (HO2.out.alloc _).alloc _
    have cB := r2.cell 0
    simp only [List.getElem?_toArray, List.getElem?_cons_zero] at cB
    have hgl := HG1.out.2
    have hds := dep_stops (w2.heap.size + 1) n g cap L ps HN.out hl HS.out W0 (by omega) (by omega) cB (HCELL.out W0 hb0)
    rw [hW0]
    clear hW0 cB hb2 HCELL
    refine wpIn_rangeFunc_ownC (t := 31) rfl (by omega) (gf := 43) (lb := #[.pointer (some ⟨w2.heap.size + 1, 0, none⟩)]) rfl trivial (enters_of Tryd.func43 (by kernel_rfl) rfl)
      hds KeepD.trans (fun W l r r' hl _ => KeepD.put (by omega) (by omega) _) (Below.refl _ _) (fun _ => rfl)
      (DI w1 w1.heap.size w2.heap.size (w2.heap.size + 1) n (.slice (some ⟨g, 0, none⟩) n cap) L) (fun _ _ _ => False)
      (fun p X Y hs hb => hs.still (Still.step hb) (hb.1.mono (by omega)))
      (fun c p X Y hs hb => hs)
      (fun p X l r r' hs hl hX => hs.still (Still.put hX) (below_put (Below.refl _ _) (by omega) hX))
      (fun c p X l r r' hs hl hX => hs)
      ⟨⟨_, r1, o0⟩, r2, hb0⟩
      (fun x a' _ => a' = { tmps := #[.slice a0 n c0, undef, .slice none 0 0, .int .i64 0, .slice (some ⟨g, 0, none⟩) n cap, .nilIface, .pointer (some ⟨w2.heap.size, 0, none⟩), undef, .int .i64 ((depT L x.1 : Nat) : Int), .tuple #[.slice (some ⟨g, 0, none⟩) n cap, .nilIface], .slice a0 n c0, .tuple #[.slice (some ⟨g, 0, none⟩) n cap, .nilIface], .slice (some ⟨g, 0, none⟩) n cap, .nilIface, .nilIface, .bool false, undef, undef, .slice (some ⟨g, 0, none⟩) n cap, .int .i64 (n : Int), .slice (some ⟨w1.heap.size, 0, none⟩) 0 n, .slice (some ⟨g, 0, none⟩) n cap, .func (.func 43) #[] #[.pointer (some ⟨w2.heap.size + 1, 0, none⟩)], .int .i64 (x.1 : Int), .int .i64 ((depT L x.1 : Nat) : Int), undef, undef, undef, undef, undef], defers := [] })
      (fun x a' _ X Y row hs hg hr => hs)
      ?assign ?body ?done ?stop
    case assign =>
      rintro l pre x W K' hI hsW hK'
      dsimp only [encD]
      gi_wp2
      exact hK' _ _ (KeepsFrom.refl _ _) ⟨Nat.le_refl _, rfl, rfl⟩ hI rfl
    case body =>
      rintro l pre x a' W hl' ⟨r, hr⟩ ⟨⟨v, a1, a2⟩, rp, hbW⟩ rfl hlt
      obtain ⟨kd, hkd⟩ : ∃ kd : Int, kd = ((depT L x.1 : Nat) : Int) := ⟨_, rfl⟩
      have HKD := Lib.hid hkd
      have c0 := a1.cell 0
      have f0 := a1.frozen 0
      simp only [List.getElem?_toArray, List.getElem?_cons_zero] at c0
      have hnews : ∀ (j : Nat) (u : Value), [Value.int .i64 kd][j]? = some u → (W.alloc (.cells #[.int .i64 kd] 3)).cell? ((⟨W.heap.size, 0, none⟩ : Addr).add j) = some u :=
        World.news_of_block (World.alloc_heap_new W (.cells #[.int .i64 kd] 3))
      have HNW := Lib.hid hnews
      have HOWN := Lib.hid (a2.alloc (.cells #[.int .i64 kd] 3))
      have HA1 := Lib.hid a1
      have HA2 := Lib.hid a2
      have HRP := Lib.hid rp
      have HBW := Lib.hid hbW
      have HLEN : Hid (pre.length + 1 ≤ maxLen ∧ (pre.length + 1) * 8 ≤ 140737488355328) := Lib.hid ⟨by unfold maxLen; omega, by omega⟩
      have hzW := hbW.size
      have HBASE : Hid (w1.heap.size ≤ (W.alloc (.cells #[.int .i64 kd] 3)).heap.size) := Lib.hid (by rw [World.size_alloc]; omega)
      have HOL := Lib.hid a2.lt
      have HONE : Hid (∀ u ∈ [Value.int .i64 kd], u.oneCell' = true) := Lib.hid (by intro u hu; simp at hu; rw [hu]; rfl)
      rw [← hkd]
      have hpl : pre.length ≤ 1000 := by omega
      clear hnews a1 a2 rp hbW hr hkd hzW
      gi_wp2_with (gi_at_builtin; refine wpListIn_append_own _ rfl (.tmp 25) (.tmp 27) 25 rfl w1.heap.size 3 i0 (.int .i64 0) 1 8 Tryd.underlying25 hi hz0 hz1 hz2 rfl (by decide) v pre.length (nums (lstD L pre)) rfl HOWN.out ⟨W.heap.size, 0, none⟩ 1 1 [.int .i64 kd] rfl rfl HNW.out HONE.out HLEN.out.1 HLEN.out.2 HBASE.out ?_; intro v' w3 how3 hgw3 _; have HO3 := Lib.hid how3; have HG3 := Lib.hid hgw3; have a3 : Row w3 w2.heap.size 25 #[v] := (hgw3.block w2.heap.size (by rw [World.size_alloc]; exact Nat.lt_succ_of_lt HA1.out.lt) (fun e => by obtain ⟨cur, hcur⟩ := own_block HA2.out e.symm; rw [show W.heap[w2.heap.size]? = _ from HA1.out] at hcur; injection hcur with hcur; injection hcur with _ e2 _; exact absurd e2 (by decide))).trans (HA1.out.alloc _); have HA3 := Lib.hid a3; have c4 := a3.cell 0; have f4 := a3.frozen 0; simp only [List.getElem?_toArray, List.getElem?_cons_zero] at c4; obtain ⟨g2, cap2, rfl, hg2, hg3⟩ := how3.form (by omega); clear how3 hgw3 a3)
      have hS3 := HG3.out.size
      rw [World.size_alloc] at hS3
      have hzW := HBW.out.size
      have hown : ∀ k, v.ownBlock = some k → ∃ cur, W.heap[k]? = some (.cells cur 3 (0, 0)) := fun k hk => own_block HA2.out hk
      have hb3 : Below w1.heap.size W w3 := ((Below.refl _ W).alloc hzW _).grown HG3.out (by rw [World.size_alloc]; omega) (fun k e => (HOL.out _ e).1)
      have hkeep : ∀ (k : Nat) (o : Obj), W.heap[k]? = some o → v.ownBlock ≠ some k → k ≠ w2.heap.size → (w3.setCell ⟨w2.heap.size, 0, none⟩ (.slice (some ⟨g2, 0, none⟩) (pre.length + 1) cap2)).heap[k]? = some o := fun k o ho h1 h2 => by
        have hk2 : k < W.heap.size := (Array.getElem?_eq_some_iff.1 ho).1
        rw [Below.heap_setCell w3 _ _ k (by dsimp only; exact h2), HG3.out.block k (by rw [World.size_alloc]; omega) (fun e => h1 e.symm), Below.heap_alloc W _ k hk2]
        exact ho
      have hvp : v.ownBlock ≠ some (w2.heap.size + 1) := fun e => by
        obtain ⟨cur, hcur⟩ := hown _ e
        rw [show W.heap[w2.heap.size + 1]? = _ from HRP.out] at hcur
        injection hcur with hcur
        injection hcur with _ e2 _
        exact absurd e2 (by decide)
      have hgW : g < W.heap.size := by have := HG1.out.2; omega
      have hg2b : g2 ≠ w2.heap.size := fun e => by
        obtain ⟨cur, hcur⟩ := own_block HO3.out (k := g2) rfl
        rw [e, show w3.heap[w2.heap.size]? = _ from HA3.out] at hcur
        injection hcur with hcur
        injection hcur with _ e2 _
        exact absurd e2 (by decide)
      refine ⟨⟨by rw [World.size_setCell]; omega, fun k o hk ho hc => hkeep k o ho (fun e => ?_) (fun e => ?_)⟩, ⟨by rw [World.size_setCell]; omega, ?_, ?_⟩, ⟨⟨_, HA3.out.set 0 _, ?_⟩, hkeep _ _ HRP.out hvp (by omega), (HBW.out.trans hb3).setCell (by dsimp only; have := HG2.out.size; omega) _⟩⟩
      · obtain ⟨cur, hcur⟩ := hown k e
        rw [hcur] at ho
        cases ho; cases hc
      · subst e
        rw [show W.heap[w2.heap.size]? = _ from HA1.out] at ho
        cases ho; cases hc
      · exact (hkeep _ _ HRP.out hvp (by omega)).trans HRP.out.symm
      · have ho : W.heap[g]? = some W.heap[g] := Array.getElem?_eq_getElem hgW
        exact (hkeep g _ ho (fun e => by have := (HOL.out _ e).1; have := HG1.out.2; omega) (by have := HG1.out.2; have := HG2.out.size; omega)).trans ho.symm
      · have e1 : nums (lstD L (pre ++ [x])) = nums (lstD L pre) ++ [.int .i64 kd] := by
          rw [HKD.out]
          simp [lstD, nums]
        rw [e1, List.length_append, List.length_singleton]
        refine ⟨HO3.out.1, ?_⟩
        rcases HO3.out.2 with ⟨h0, _⟩ | ⟨g', cap', cur, q1, q2, q3, q4⟩
        · cases h0
        · have hgg : g' = g2 := by
            injection q1 with z1 _ _
            injection z1 with z1
            injection z1 with z1 _ _
            exact z1.symm
          subst hgg
          exact .inr ⟨g', cap', cur, q1, q2, (Below.heap_setCell w3 _ _ _ (by dsimp only; exact hg2b)).trans q3, q4⟩
    case done =>
      rintro D xs W hD hxs ⟨⟨v, a1, a2⟩, rp, hbW⟩ hKD
      have hlen : xs.length = n := by have := congrArg List.length hxs; simpa using this
      have hall := lstD_all (L := L) hxs
      rw [hall, hlen] at a2
      have HA2 := Lib.hid a2
      have HBW := Lib.hid hbW
      have c0 := a1.cell 0
      simp only [List.getElem?_toArray, List.getElem?_cons_zero] at c0
      clear hall hxs a2 hbW
      refine hK _ _ ?_
      gi_wp2
      refine ⟨by simp, .inl ⟨_, _, rfl, run_takeDeferred hKD, ?_⟩⟩
      refine ⟨.tuple #[v, .int .i64 0], by simp [results, Tryd.f14, go_sem], v, by rw [HE.out]; rfl, ?_, below_drop (d' := none) (HB.out.trans (HBW.out.mono HB.out.size)) (by have := HB.out.size; have := HG2.out.size; omega) hKD⟩
      have hda : deepA L = deps L n := by unfold deepA; rw [if_pos HE.out, HN.out]
      rw [hda]
      show World.ownsRow _ _ _ _ _ _ _
      rw [deps_len]
      exact own_still (own_mono HA2.out HB.out.size) (by decide) (Still.drop (d' := none) hKD)
    case stop =>
      rintro D c pre W hD _ hf _
      exact hf.elim
  · have HNF := Lib.hid (number_fault (a : Int) ((errA L : Nat) : Int) w1 (hG.step hb1))
    have HB := Lib.hid hb1
    have hd : deepA L = [] := by unfold deepA; rw [if_neg h0]
    have HD := Lib.hid hd
    clear hd h0 hb1 hG HP
    gi_wp2
    refine ⟨trivial, ?_⟩
    refine (callsIn_wide.2 HNF.out).mono ?_
    rintro e w2 ⟨rfl, hb2⟩
    have HB2 := Lib.hid (HB.out.trans (hb2.mono HB.out.size))
    clear hb2
    gi_wp2
    refine ⟨.tuple #[.slice none 0 0, .int .i64 ((errA L : Nat) : Int)], ?_, _, rfl, by rw [HD.out]; exact IOwn.nil _ _, HB2.out⟩
    simp [results, Tryd.f14, go_sem]
end Go.Proofs.YthbiflmmlcmncaaDoor.Ti
