/- Brackets' partners, or what is wrong (by wip/gen/gr_par.py). The calls Match: its answer, as the plain one has it. -/
import Derived.Test.YthbiflmmlcmncaaDoorGrDep
import Derived.Test.YthbiflmmlcmncaaDoorGrErr
import Derived.Test.YthbiflmmlcmncaaDoorGyA
/- Brackets' partners, or what is wrong (by wip/gen/gr_par.py). -/
namespace Go.Proofs.YthbiflmmlcmncaaDoor.Ti
open Go Go.RowKit Go.Shelf
attribute [local go_sem] Oper.semAt_some

theorem replicate_parts (n : Nat) : List.replicate n (-1 : Int) = parts n [] := by
  apply List.ext_getElem?
  intro k
  by_cases hk : k < n
  · rw [parts_at _ hk, List.getElem?_replicate, if_pos hk]; rfl
  · rw [List.getElem?_replicate, if_neg hk, List.getElem?_eq_none (by rw [parts_len]; omega)]
/-- What is left behind all tokens, in two ways. -/
theorem MEnd.cases {L : List Tk} {n : Nat} {wl : List Wt} {P : List Int} (hL : L.length = n) (h : MEnd L n wl P) : (errA L = 60 ∧ ∃ wl' x, wl = wl' ++ [x] ∧ wl'.length ≤ n) ∨ (wl = [] ∧ ∃ ps, stAt L n = some ([], ps) ∧ P = parts n ps) := by
  unfold MEnd at h
  cases hs : stAt L n with
  | none =>
    rw [hs] at h
    obtain ⟨wl', a, rfl, hle⟩ := h
    refine .inl ⟨?_, wl', _, rfl, hle⟩
    unfold errA
    rw [matchA_none (by rw [hL]; exact hs)]
  | some s =>
    rw [hs] at h
    obtain ⟨rfl, rfl⟩ := h
    obtain ⟨S, ps⟩ := s
    cases S with
    | nil => exact .inr ⟨rfl, ps, rfl, rfl⟩
    | cons x S =>
      refine .inl ⟨?_, wts S, (x.1, clT x.2), wts_cons x S, by have := st_len n _ (by omega) hs; rw [wts_len]; simp at this; omega⟩
      unfold errA
      rw [matchA_wait (s := (x :: S, ps)) (by rw [hL]; exact hs) (by simp)]
theorem errA_61 {L : List Tk} {ps : List (Nat × Nat)} (hs : stAt L L.length = some ([], ps)) {k : Nat} {t : Tk} (ht : L[k]? = some t) (hO : isO t = true) (hd : 20 ≤ depT L k) : errA L = 61 := by
  have hlt : k < L.length := (List.getElem?_eq_some_iff.1 ht).1
  obtain ⟨u, hu⟩ := stAt_some (k := k + 1) hs (by omega)
  have h1 := (dpt_step ht hu).1 hO
  rw [depT_at ht, isO_isC hO] at hd
  simp only [Bool.false_eq_true, if_false] at hd
  have hm : ¬ dmax L L.length ≤ 20 := fun e => by
    have := (dmax_le_iff L 20 L.length).1 e k t hlt ht hO
    omega
  unfold errA
  rw [matchA_deep hs rfl (by omega)]
theorem errA_00 {L : List Tk} {ps : List (Nat × Nat)} (hs : stAt L L.length = some ([], ps)) (h : ∀ k, k < L.length → ¬ (20 ≤ depT L k ∧ isO (tokAt L k) = true)) : errA L = 0 := by
  refine errA_zero hs (fun k t hk ht ho => ?_)
  obtain ⟨u, hu⟩ := stAt_some (k := k + 1) hs (by omega)
  have h1 := (dpt_step ht hu).1 ho
  have h2 := h k hk
  have h3 : tokAt L k = t := Option.some.inj ((tokAt_of hk).symm.trans ht)
  rw [h3, depT_at ht, isO_isC ho] at h2
  simp only [Bool.false_eq_true, if_false] at h2
  have : ¬ 20 ≤ dpt L k := fun e => h2 ⟨e, ho⟩
  omega
/-- What the loop over the depths keeps. -/
structure PI (w : World) (base h M n : Nat) (pv : Value) (mv sv : Value) (L : List Tk) (ps : List (Nat × Nat)) (pre : List (Ix n)) (W : World) : Prop where
  r2 : Row W h 45 #[.slice none 0 0]
  r3 : Row W (h + 1) 47 #[.nilIface]
  rM : Row W M 68 #[sv, pv, mv]
  own : IOwn W base pv (parts n ps)
  lo : M < W.heap.size
  below : Below base w W
  ord : InOrder pre → ∀ k, k < pre.length → ¬ (20 ≤ depT L k ∧ isO (tokAt L k) = true)
theorem PI.still {w : World} {base h M n : Nat} {pv mv sv : Value} {L : List Tk} {ps : List (Nat × Nat)} {pre : List (Ix n)} {W W' : World} (q : PI w base h M n pv mv sv L ps pre W) (hs : Still W W') (hb : Below base W W') (hz : W.heap.size ≤ W'.heap.size) : PI w base h M n pv mv sv L ps pre W' :=
  ⟨Row.still q.r2 (by decide) hs, Row.still q.r3 (by decide) hs, Row.still q.rM (by decide) hs, own_still q.own (by decide) hs, Nat.lt_of_lt_of_le q.lo hz, q.below.trans hb, q.ord⟩
/-- What it leaves where it is left. -/
structure PX (w : World) (base h n : Nat) (L : List Tk) (c : Code) (pre : List (Ix n)) (W : World) : Prop where
  c : c = .ret
  ex : ∃ a : Nat, Row W h 45 #[.slice none 0 0] ∧ Row W (h + 1) 47 #[wrongV (a : Int) 61]
  err : errA L = 61
  below : Below base w W
theorem PX.still {w : World} {base h n : Nat} {L : List Tk} {c : Code} {pre : List (Ix n)} {W W' : World} (q : PX w base h n L c pre W) (hs : Still W W') (hb : Below base W W') : PX w base h n L c pre W' := by
  obtain ⟨a, h1, h2⟩ := q.ex
  exact ⟨q.c, ⟨a, Row.still h1 (by decide) hs, Row.still h2 (by decide) hs⟩, q.err, q.below.trans hb⟩

set_option maxRecDepth 100000 in
set_option maxHeartbeats 8000000 in
theorem partners_c (w : World) (v : Value) (L : List Tk) (hT : TL w v L) (hl : L.length ≤ 1000) :
    Calls Tryd.prog 27 #[v] w fun e W' => Below w.heap.size w W' ∧
      ((errA L = 0 ∧ ∃ g cap ps, e = .returned (.tuple #[.slice (some ⟨g, 0, none⟩) L.length cap, .nilIface]) ∧ stAt L L.length = some ([], ps) ∧ IOwn W' w.heap.size (.slice (some ⟨g, 0, none⟩) L.length cap) (parts L.length ps)) ∨
       (¬ errA L = 0 ∧ ∃ a : Nat, e = .returned (.tuple #[.slice none 0 0, wrongV (a : Int) (errA L)]))) := by
  obtain ⟨a0, c0, rfl, hc1, hc2⟩ := hT.form
  obtain ⟨n, hn⟩ : ∃ n, n = L.length := ⟨_, rfl⟩
  have hTc : ∀ W, Below w.heap.size w W → 0 < n → ∃ g o, a0 = some ⟨g, o, none⟩ ∧ g < w.heap.size ∧ ∀ j t, L[j]? = some t → W.cell? ⟨g, o + j * 3, none⟩ = some (.int .i64 t.kind) ∧ W.cell? ⟨g, o + j * 3 + 1, none⟩ = some (.string (bs t.text)) ∧ W.cell? ⟨g, o + j * 3 + 2, none⟩ = some (.string (bs t.glyph)) := fun W hb h0 => by
    obtain ⟨g, o, c, e, hg, hcl⟩ := (hT.below hb).cells (by omega)
    obtain ⟨g', o', c', e', hg', _⟩ := hT.cells (by omega)
    cases e
    cases e'
    exact ⟨_, _, rfl, hg', hcl⟩
  rw [← hn] at hl hc1 ⊢
  have HN := Lib.hid hn.symm
  have HTC := Lib.hid hTc
  unfold maxLen at hc2
  clear hT hTc hn
  obtain ⟨h, hh⟩ : ∃ h, h = w.heap.size := ⟨_, rfl⟩
  have HH := Lib.hid hh
  refine (callsIn_wide (n := 5)).1 ?_
  refine callsIn_of_wp_marks Tryd.func27 rfl trivial ?_ rfl
  simp only [Tryd.ntmps27, List.size_toArray, List.length_cons, List.length_nil, Nat.reduceAdd, Nat.reduceSub, Array.replicate_succ, Array.replicate_zero, List.push_toArray, List.append_toArray, List.nil_append, List.cons_append]
  have rA : ∀ W, W = (w.alloc (.cells #[.slice none 0 0] 45)).alloc (.cells #[.nilIface] 47) → Row W h 45 #[.slice none 0 0] ∧ Row W (h + 1) 47 #[.nilIface] ∧ Below h w W ∧ W.heap.size = h + 2 := fun W e => by
    subst e
    rw [hh]
    exact ⟨(Row.new _ _ _).alloc _, Row.at _ _ _ _ (by simp), ((Below.refl _ w).alloc (Nat.le_refl _) _).alloc (by simp) _, by simp⟩
  have HRA := Lib.hid rA
  clear rA
  gi_wp2_with (refine ⟨trivial, ?_⟩; gi_at_call 38; refine (callsIn_wide.2 (closers_c _)).mono ?_; rintro e w1 ⟨mb, es, rfl, hm1, hm2, hmp, hall, hb1⟩)
  obtain ⟨q2, q3, hb0, hz0⟩ := HRA.out _ rfl
  have hbb1 : Below h w w1 := hb0.trans (hb1.mono (by omega))
  have q2' := q2.below hb1 q2.lt
  have q3' := q3.below hb1 q3.lt
  have hz1 : h + 2 ≤ w1.heap.size := by have := hb1.size; omega
  have hm0 : h + 2 ≤ mb := by omega
  have hc : (w1.alloc (.cells #[.int .i64 (-1)] 3)).cell? ⟨w1.heap.size, 0, none⟩ = some (.int .i64 (-1)) := (Row.new w1 3 #[.int .i64 (-1)]).cell 0
  have HREP := Lib.hid (repeat_c (w1.alloc (.cells #[.int .i64 (-1)] 3)) w1.heap.size n hc (by simp) hl)
  have HB1 := Lib.hid hbb1
  have HQ2 := Lib.hid q2'
  have HQ3 := Lib.hid q3'
  have HMP := Lib.hid hmp
  have HALL := Lib.hid hall
  clear q2 q3 hb0 hz0 hbb1 q2' q3' hmp hall hb1 hc HRA
  gi_wp2_with (refine ⟨trivial, ?_⟩; gi_at_call 39; refine (callsIn_wide.2 HREP.out).mono ?_; rintro e w2 ⟨g, rfl, hown, hb2⟩)
  have hb2' : Below w1.heap.size w1 w2 := ((Below.refl _ w1).alloc (Nat.le_refl _) _).trans (hb2.mono (by simp))
  obtain ⟨M, hM⟩ : ∃ M, M = w2.heap.size := ⟨_, rfl⟩
  obtain ⟨W3, hW3⟩ : ∃ W, W = w2.alloc (.cells #[.slice none 0 0, .slice (some ⟨g, 0, none⟩) n n, .map (some mb)] 68) := ⟨_, rfl⟩
  have hb3 : Below w2.heap.size w2 W3 := by rw [hW3]; exact (Below.refl _ w2).alloc (Nat.le_refl _) _
  have rM : Row W3 M 68 #[.slice none 0 0, .slice (some ⟨g, 0, none⟩) n n, .map (some mb)] := by rw [hW3, hM]; exact Row.new _ _ _
  have hg1 := (hown.lt g rfl)
  have hz2 := hb2'.size
  have hz3 := hb3.size
  rw [replicate_parts] at hown
  have hMt : Mt W3 (h + 2) M (.slice none 0 0) (.slice (some ⟨g, 0, none⟩) n n) [] (parts n []) mb es := by
    refine ⟨rM, World.ownsRow_nil _ _ _ _, ?_, ?_, HALL.out, by omega, (fun e => by cases e), (fun e => ?_), (fun k e => by cases e)⟩
    · have := own_mono hown (base' := h + 2) (by simp; omega)
      exact own_kept this hb3
    · exact (HMP.out.below hb2').below hb3
    · simp [Value.ownBlock] at e
      omega
  have HMT := Lib.hid hMt
  have HB3 : Hid (Below h w W3) := Lib.hid (HB1.out.trans ((hb2'.trans (hb3.mono hz2)).mono (by omega)))
  have HR2 := Lib.hid ((HQ2.out.below hb2' HQ2.out.lt).below hb3 (by have := HQ2.out.lt; omega))
  have HR3 := Lib.hid ((HQ3.out.below hb2' HQ3.out.lt).below hb3 (by have := HQ3.out.lt; omega))
  have hh3 : h + 2 ≤ W3.heap.size := by omega
  have hMh : h + 2 ≤ M := by omega
  have HMA := Lib.hid (match_c W3 (h + 2) M (.slice (some ⟨g, 0, none⟩) n n) mb es a0 c0 n L HN.out hl hMt hh3 (fun h0 => by
    obtain ⟨g', o, e1, e2, e3⟩ := HTC.out W3 (by rw [← HH.out]; exact HB3.out) h0
    exact ⟨g', o, e1, by rw [HH.out]; omega, e3⟩))
  have HGI := Lib.hid (And.intro hg1.1 (And.intro hg1.2 (And.intro hz2 (And.intro hz3 hMh))))
  clear hb2 hb2' hown hMt hb3 rM hg1 HMP HALL HQ2 HQ3 HB1 hz2 hz3 hMh hh3
  subst hM hW3
  gi_wp2_with (refine ⟨trivial, ?_⟩; gi_at_call 40; refine (callsIn_wide.2 HMA.out).mono ?_; rintro e w4 ⟨⟨v4, rfl⟩, sv, wl, P, hM4, hb4, hend⟩)
  have hrr2 := HR2.out
  have hrr3 := HR3.out
  have hzm : w2.heap.size + 1 = (w2.alloc (.cells #[.slice none 0 0, .slice (some ⟨g, 0, none⟩) n n, .map (some mb)] 68)).heap.size := by rw [World.size_alloc]
  have r24 : Row w4 h 45 #[.slice none 0 0] := (hb4.block h (by omega)).trans hrr2
  have r34 : Row w4 (h + 1) 47 #[.nilIface] := (hb4.block (h + 1) (by omega)).trans hrr3
  have hB4 : Below h w w4 := HB3.out.trans (hb4.mono (by omega))
  have hz4 : h + 2 ≤ w4.heap.size := by have := hb4.size; have := HGI.out; omega
  have HB4 := Lib.hid hB4
  have HM4 := Lib.hid hM4
  have HR24 := Lib.hid r24
  have HR34 := Lib.hid r34
  have HZ4 := Lib.hid hz4
  rcases hend.cases HN.out with ⟨herr, wl', ⟨xa, xt⟩, rfl, hwl⟩ | ⟨rfl, ps, hst, rfl⟩
  · have HERR := Lib.hid herr
    have HTOP := Lib.hid (top_some w4 (h + 2) w2.heap.size sv _ wl' (xa, xt) P mb es hM4 (by omega))
    have f0 : ∀ w : World, (Instr.field 71 (.agg #[.int .i64 (xa : Int), .int .i64 xt.kind, .string (bs xt.text), .string (bs xt.glyph)]) 0).run Tryd.prog w = .ok (.int .i64 (xa : Int)) w := fun _ => by kernel_rfl
    have tne : ((xa : Int) != -1) = true := by simp
    clear hrr2 hrr3 hzm r24 r34 hB4 hz4 hM4 hb4 hend herr HMA HREP HR2 HR3
    gi_wp2_with (refine ⟨trivial, ?_⟩; gi_at_call 41; refine (callsIn_wide.2 HTOP.out).mono ?_; rintro e w5 ⟨rfl, hb5⟩; have r25 := HR24.out.below hb5 HR24.out.lt; have r35 := HR34.out.below hb5 HR34.out.lt; have HB5 := Lib.hid (HB4.out.trans (hb5.mono (by have := HZ4.out; omega))); clear hb5; rw [HH.out] at r25 r35; have c25 := r25.cell 0; have c35 := r35.cell 0; have g25 := r25.frozen 0; have g35 := r35.frozen 0; simp only [List.getElem?_toArray, List.getElem?_cons_zero] at c25 c35; have HR25 := Lib.hid r25; have HR35 := Lib.hid r35; clear r25 r35)
    gi_wp2
    have p2 := ((HR25.out.set 0 (.slice none 0 0)).other (show w.heap.size ≠ w.heap.size + 1 by omega) (i := 0) (wrongV (xa : Int) 60))
    have p3 := ((HR35.out.other (show w.heap.size + 1 ≠ w.heap.size by omega) (i := 0) (.slice none 0 0)).set 0 (wrongV (xa : Int) 60))
    have d2 := p2.cell 0
    have d3 := p3.cell 0
    simp at d2 d3
    have hBf := (HB5.out.setCell (p := ⟨w.heap.size, 0, none⟩) (by have := HH.out; dsimp only; omega) (.slice none 0 0)).setCell (p := ⟨w.heap.size + 1, 0, none⟩) (by have := HH.out; dsimp only; omega) (wrongV (xa : Int) 60)
    rw [HH.out] at hBf
    refine ⟨.tuple #[.slice none 0 0, wrongV (xa : Int) 60], ?_, hBf, .inr ⟨by rw [HERR.out]; decide, xa, by rw [HERR.out]; rfl⟩⟩
    simp [results, Tryd.f27, go_sem, d2, d3]
  · have HST := Lib.hid hst
    have HTOP := Lib.hid (top_nil w4 (h + 2) w2.heap.size sv _ (parts n ps) mb es hM4)
    have f0 : ∀ w : World, (Instr.field 71 (.agg #[.int .i64 (-1), .int .i64 0, .string ⟨#[]⟩, .string ⟨#[]⟩]) 0).run Tryd.prog w = .ok (.int .i64 (-1)) w := fun _ => by kernel_rfl
    clear hrr2 hrr3 hzm r24 r34 hB4 hz4 hM4 hb4 hend hst HMA HREP HR2 HR3
    gi_wp2_with (refine ⟨trivial, ?_⟩; gi_at_call 41; refine (callsIn_wide.2 HTOP.out).mono ?_; rintro e w5 ⟨rfl, hb5⟩; have r25 := HR24.out.below hb5 HR24.out.lt; have r35 := HR34.out.below hb5 HR34.out.lt; have HB5 := Lib.hid (HB4.out.trans (hb5.mono (by have := HZ4.out; omega))); have hM5 := HM4.out.below hb5; have cM := hM5.row.cell 1; simp only [List.getElem?_toArray, List.getElem?_cons_zero, List.getElem?_cons_succ] at cM; have HM5 := Lib.hid hM5; have HZ5 := Lib.hid (show h + 2 ≤ w5.heap.size by have := HZ4.out; have := hb5.size; omega); have HR25 := Lib.hid r25; have HR35 := Lib.hid r35; clear hb5 hM5 r25 r35)
    gi_wp2_with (refine ⟨trivial, ?_⟩; gi_at_call 32; refine (depths_in _ 4 trivial rfl _ _ _ _).mono ?_; rintro e w' ⟨rfl, rfl⟩)
    have hh := HH.out
    subst hh
    rename_i Q' K hK
    obtain ⟨W0, hW0⟩ : ∃ W0, w5.alloc (.cells #[.slice (some ⟨g, 0, none⟩) n n] 45) = W0 := ⟨_, rfl⟩
    have hb0 : Below w5.heap.size w5 W0 := by rw [← hW0]; exact (Below.refl _ _).alloc (Nat.le_refl _) _
    have rB : Row W0 w5.heap.size 45 #[.slice (some ⟨g, 0, none⟩) n n] := by rw [← hW0]; exact Row.new _ _ _
    have hz0 : W0.heap.size = w5.heap.size + 1 := by rw [← hW0]; simp
    have hgl := (HM5.out.pr.lt g rfl)
    have hML := HM5.out.row.lt
    have hz5 := HZ5.out
    have cB := rB.cell 0
    simp only [List.getElem?_toArray, List.getElem?_cons_zero] at cB
    have hpr0 : IOwn W0 w.heap.size (.slice (some ⟨g, 0, none⟩) n n) (parts n ps) := own_kept (own_mono HM5.out.pr (by omega)) hb0
    have hPI : PI w w.heap.size w.heap.size w2.heap.size n (.slice (some ⟨g, 0, none⟩) n n) (.map (some mb)) sv L ps [] W0 :=
      ⟨HR25.out.below hb0 (by omega), HR35.out.below hb0 (by omega), HM5.out.row.below hb0 hML, hpr0, by omega, HB5.out.trans (hb0.mono (by omega)), fun _ k hk => by simp at hk⟩
    have hcell : ∀ W, IOwn W w.heap.size (.slice (some ⟨g, 0, none⟩) n n) (parts n ps) → ∀ k, k < n → W.cell? ⟨g, k, none⟩ = some (.int .i64 (part ps k)) := fun W ho k hk => by
      have ho' : W.ownsRow w.heap.size 3 1 (.slice (some ⟨g, 0, none⟩) n n) n (nums (parts n ps)) := by
        have h9 := ho
        change W.ownsRow _ _ _ _ (parts n ps).length _ at h9
        rw [parts_len] at h9
        exact h9
      rw [ho'.cellAt k (by omega)]
      exact nums_at (parts_at ps hk)
    have hds := dep_stops w5.heap.size n g n L ps HN.out hl HST.out W0 (by omega) (by omega) cB (hcell W0 hpr0)
    have HCELL := Lib.hid hcell
    have hN := HN.out
    rw [hW0]
    clear hW0 hb0 rB cB hpr0 hcell f0
    refine wpIn_rangeFunc_ownC (t := 31) rfl (by omega) (gf := 43) (lb := #[.pointer (some ⟨w5.heap.size, 0, none⟩)]) rfl trivial (enters_of Tryd.func43 (by kernel_rfl) rfl)
      hds KeepD.trans (fun W l r r' hl _ => KeepD.put (by omega) (by omega) _) (Below.refl _ _) (fun _ => rfl)
      (PI w w.heap.size w.heap.size w2.heap.size n (.slice (some ⟨g, 0, none⟩) n n) (.map (some mb)) sv L ps) (fun c => PX w w.heap.size w.heap.size n L c)
      (fun p X Y hs hb => hs.still (Still.step hb) (hb.1.mono (by omega)) hb.1.size)
      (fun c p X Y hs hb => hs.still (Still.step hb) (hb.1.mono (by omega)))
      (fun p X l r r' hs hl hX => hs.still (Still.put hX) (below_put (Below.refl _ _) (by omega) hX) (by simp [World.putObj]))
      (fun c p X l r r' hs hl hX => hs.still (Still.put hX) (below_put (Below.refl _ _) (by omega) hX))
      hPI
      (fun x a' _ => a' = { tmps := #[.slice a0 n c0, undef, .pointer (some ⟨w.heap.size, 0, none⟩), .pointer (some ⟨w.heap.size + 1, 0, none⟩), .pointer (some ⟨w2.heap.size, 0, none⟩), .int .i64 (-1), .int .i64 (x.1 : Int), .int .i64 ((depT L x.1 : Nat) : Int), .map (some mb), .slice (some ⟨w1.heap.size, 0, none⟩) 1 1, .slice a0 n c0, .int .i64 (n : Int), .slice (some ⟨g, 0, none⟩) n n, .agg #[.slice none 0 0, .slice (some ⟨g, 0, none⟩) n n, .map (some mb)], .slice a0 n c0, v4, .pointer (some ⟨w2.heap.size, 0, none⟩), .agg #[.int .i64 (-1), .int .i64 0, .string ⟨#[]⟩, .string ⟨#[]⟩], .int .i64 (-1), .int .i64 (-1), .bool false, undef, undef, undef, undef, .pointer (some ⟨w2.heap.size, 1, none⟩), .slice (some ⟨g, 0, none⟩) n n, .func (.func 43) #[] #[.pointer (some ⟨w5.heap.size, 0, none⟩)], .int .i64 (x.1 : Int), .int .i64 ((depT L x.1 : Nat) : Int), undef, undef, undef, undef, undef, undef, undef, undef, undef, undef, undef, undef, undef, undef], defers := [] })
      (fun x a' _ X Y row hs hg hr => hs)
      ?assign ?body ?done ?stop
    case assign =>
      rintro l pre x W K' hI hsW hK'
      dsimp only [encD]
      gi_wp2
      exact hK' _ _ (KeepsFrom.refl _ _) ⟨Nat.le_refl _, rfl, rfl⟩ hI rfl
    case body =>
      rintro l pre x a' W hl' ⟨r, hr⟩ hI rfl hlt
      obtain ⟨D, hD⟩ : ∃ D, D = depT L x.1 := ⟨_, rfl⟩
      have HDD := Lib.hid hD
      have HPI := Lib.hid hI
      have cM := hI.rM.cell 1
      simp only [List.getElem?_toArray, List.getElem?_cons_zero, List.getElem?_cons_succ] at cM
      have hop := opens_p W g n n x.1 (part ps x.1) x.2 (HCELL.out W hI.own x.1 x.2)
      have htell := (inv_at L L.length _ (Nat.le_refl _) (by rw [hN]; exact HST.out)).tells (tokAt_of (L := L) (k := x.1) (by rw [hN]; exact x.2))
      have hDb : D ≤ 1000 := by
        rw [hD, depT_at (tokAt_of (L := L) (k := x.1) (by rw [hN]; exact x.2))]
        have key : ∀ k, k ≤ n → dpt L k ≤ 1000 := fun k hk => by
          obtain ⟨s, q⟩ := stAt_some (k := k) (by rw [hN]; exact HST.out) (by omega)
          rw [dpt_some q]
          have := st_len k s (by omega) q
          omega
        have hx2 := x.2
        split
        · exact key _ (by omega)
        · exact key _ (by omega)
      have hord : ∀ (hno : ¬ (20 ≤ D ∧ isO (tokAt L x.1) = true)), PI w w.heap.size w.heap.size w2.heap.size n (.slice (some ⟨g, 0, none⟩) n n) (.map (some mb)) sv L ps (pre ++ [x]) W := fun hno =>
        ⟨hI.r2, hI.r3, hI.rM, hI.own, hI.lo, hI.below, fun hin k hk => by
          obtain ⟨i1, i2⟩ := inOrder_snoc.1 hin
          rw [List.length_append, List.length_singleton] at hk
          by_cases hk2 : k < pre.length
          · exact hI.ord i1 k hk2
          · obtain rfl : k = x.1 := by omega
            rw [← hD]; exact hno⟩
      have HORD := Lib.hid hord
      rw [← hD]
      clear hD hI hord hr
      by_cases h20 : 20 ≤ D
      · have t20 : (20 : Int) ≤ (D : Int) := by omega
        by_cases hO : isO (tokAt L x.1) = true
        · obtain ⟨b, _, e1, e2, _⟩ := htell.1 hO
          rw [decide_eq_true (by omega)] at hop
          have HOP := Lib.hid hop
          have HERR : Hid (errA L = 61) := Lib.hid (errA_61 (by rw [hN]; exact HST.out) (tokAt_of (L := L) (k := x.1) (by rw [hN]; exact x.2)) hO (by rw [← HDD.out]; exact h20))
          have c2 := HPI.out.r2.cell 0
          have c3 := HPI.out.r3.cell 0
          have g2 := HPI.out.r2.frozen 0
          have g3 := HPI.out.r3.frozen 0
          simp only [List.getElem?_toArray, List.getElem?_cons_zero] at c2 c3
          clear hop htell e1 e2 hO
          gi_wp2_with (refine ⟨trivial, ?_⟩; gi_at_call 36; refine (CallsIn.inRound l (callsIn_wide.2 HOP.out)).mono ?_; rintro e w' ⟨rfl, hw⟩; obtain rfl := hw.symm; clear hw)
          gi_wp2
          have p2 := ((HPI.out.r2.set 0 (.slice none 0 0)).other (show w.heap.size ≠ w.heap.size + 1 by omega) (i := 0) (wrongV (x.1 : Int) 61))
          have p3 := ((HPI.out.r3.other (show w.heap.size + 1 ≠ w.heap.size by omega) (i := 0) (.slice none 0 0)).set 0 (wrongV (x.1 : Int) 61))
          exact ⟨((KeepsOthers.setCell _ _ _).trans (KeepsOthers.setCell _ _ _)).from _, rfl, ⟨x.1, p2, p3⟩, HERR.out, (HPI.out.below.setCell (p := ⟨w.heap.size, 0, none⟩) (by dsimp only; omega) _).setCell (p := ⟨w.heap.size + 1, 0, none⟩) (by dsimp only; omega) _⟩
        · have hz : ¬ (x.1 : Int) < part ps x.1 := by
            by_cases hC : isC (tokAt L x.1) = true
            · obtain ⟨a, _, e1, e2⟩ := htell.2.1 hC
              omega
            · have := htell.2.2 (by simpa using hO) (by simpa using hC)
              omega
          rw [decide_eq_false hz] at hop
          have HOP := Lib.hid hop
          have HNO := Lib.hid (HORD.out (fun e => hO e.2))
          clear hop htell hz hO
          gi_wp2_with (refine ⟨trivial, ?_⟩; gi_at_call 36; refine (CallsIn.inRound l (callsIn_wide.2 HOP.out)).mono ?_; rintro e w' ⟨rfl, hw⟩; obtain rfl := hw.symm; clear hw)
          gi_wp2
          exact ⟨KeepsFrom.refl _ _, ⟨Nat.le_refl _, rfl, rfl⟩, HNO.out⟩
      · have t20 : ¬ (20 : Int) ≤ (D : Int) := by omega
        have HNO := Lib.hid (HORD.out (fun e => h20 e.1))
        clear hop htell
        gi_wp2
        refine ⟨trivial, ?_⟩
        gi_wp2
        exact ⟨KeepsFrom.refl _ _, ⟨Nat.le_refl _, rfl, rfl⟩, HNO.out⟩
    case done =>
      rintro D xs W hD hxs hI hKD
      have hin : InOrder xs ∧ xs.length = n := inOrder_of hxs
      have HERR : Hid (errA L = 0) := Lib.hid (errA_00 (by rw [hN]; exact HST.out) (fun k hk => hI.ord hin.1 k (by omega)))
      have cM := hI.rM.cell 1
      have c2 := hI.r2.cell 0
      have c3 := hI.r3.cell 0
      have g2 := hI.r2.frozen 0
      have g3 := hI.r3.frozen 0
      simp only [List.getElem?_toArray, List.getElem?_cons_zero, List.getElem?_cons_succ] at cM c2 c3
      have HI := Lib.hid hI
      clear hin hI
      refine hK _ _ ?_
      gi_wp2
      have hK1 := (((KeepsOthers.setCell W ⟨w.heap.size, 0, none⟩ (.slice (some ⟨g, 0, none⟩) n n)).trans (KeepsOthers.setCell _ ⟨w.heap.size + 1, 0, none⟩ .nilIface)).same D _ hKD rfl)
      refine ⟨by simp, .inl ⟨_, _, rfl, run_takeDeferred hK1, ?_⟩⟩
      have p2 := ((HI.out.r2.set 0 (.slice (some ⟨g, 0, none⟩) n n)).other (show w.heap.size ≠ w.heap.size + 1 by omega) (i := 0) .nilIface)
      have p3 := ((HI.out.r3.other (show w.heap.size + 1 ≠ w.heap.size by omega) (i := 0) (.slice (some ⟨g, 0, none⟩) n n)).set 0 .nilIface)
      have s2 := Row.still p2 (by decide) (Still.drop (d' := none) hK1)
      have s3 := Row.still p3 (by decide) (Still.drop (d' := none) hK1)
      have d2 := s2.cell 0
      have d3 := s3.cell 0
      simp at d2 d3
      have hbf := (HI.out.below.setCell (p := ⟨w.heap.size, 0, none⟩) (by dsimp only; omega) (.slice (some ⟨g, 0, none⟩) n n)).setCell (p := ⟨w.heap.size + 1, 0, none⟩) (by dsimp only; omega) .nilIface
      have hg2 : w.heap.size + 2 ≤ g := by
        have h9 := HGI.out.1
        rw [World.size_alloc] at h9
        omega
      have how : IOwn ((W.setCell ⟨w.heap.size, 0, none⟩ (.slice (some ⟨g, 0, none⟩) n n)).setCell ⟨w.heap.size + 1, 0, none⟩ .nilIface) w.heap.size (.slice (some ⟨g, 0, none⟩) n n) (parts n ps) := by
        have ho := HI.out.own
        refine ⟨ho.1, ?_⟩
        rcases ho.2 with ⟨hv, _⟩ | ⟨g', cap', cur, e1, e2, e3, e4⟩
        · cases hv
        · have hgg : g' = g := by
            injection e1 with q1 _ _
            injection q1 with q1
            injection q1 with q1 _ _
            exact q1.symm
          subst hgg
          exact .inr ⟨g', cap', cur, e1, e2, (Below.heap_setCell _ _ _ _ (by dsimp only; omega)).trans ((Below.heap_setCell _ _ _ _ (by dsimp only; omega)).trans e3), e4⟩
      refine ⟨.tuple #[.slice (some ⟨g, 0, none⟩) n n, .nilIface], ?_, below_drop (d' := none) hbf (by omega) hK1, .inl ⟨HERR.out, g, n, rfl, ps, HST.out, own_still how (by decide) (Still.drop (d' := none) hK1)⟩⟩
      simp [results, Tryd.f27, go_sem, d2, d3]
    case stop =>
      rintro D c pre W hD _ hI hKD
      obtain ⟨rfl, ⟨a, r2, r3⟩, herr, hbl⟩ := hI
      have HE := Lib.hid herr
      clear herr
      gi_wp2
      refine ⟨by simp, .inl ⟨_, _, rfl, run_takeDeferred hKD, ?_⟩⟩
      have s2 := Row.still r2 (by decide) (Still.drop (d' := none) hKD)
      have s3 := Row.still r3 (by decide) (Still.drop (d' := none) hKD)
      have d2 := s2.cell 0
      have d3 := s3.cell 0
      simp at d2 d3
      refine ⟨.tuple #[.slice none 0 0, wrongV (a : Int) 61], ?_, below_drop (d' := none) hbl (by omega) hKD, .inr ⟨by rw [HE.out]; decide, a, by rw [HE.out]; rfl⟩⟩
      simp [results, Tryd.f27, go_sem, d2, d3]
end Go.Proofs.YthbiflmmlcmncaaDoor.Ti

/- The calls Match: its answer, as the plain one has it. -/
namespace Go.Proofs.YthbiflmmlcmncaaDoor.Ti
open Go Go.RowKit Go.Shelf
attribute [local go_sem] Oper.semAt_some

/-- The ground: where the interface error's table lies. -/
abbrev EG (w : World) : Prop := Go.Proofs.YthbiflmmlcmncaaDoor.ErrT w
theorem EG.step {w W : World} (h : EG w) (hb : Below w.heap.size w W) : EG W := ⟨(hb.cell (p := ⟨0, 0, none⟩) h.2).trans h.1, Nat.lt_of_lt_of_le h.2 hb.size⟩

set_option maxRecDepth 100000 in
set_option maxHeartbeats 2000000 in
/-- Match(l). -/
theorem gmatch_c (w : World) (hG : EG w) (v : Value) (L : List Tk) (hT : TL w v L) (hl : L.length ≤ 1000) :
    Calls Tryd.prog 12 #[v] w fun e W' => ∃ v', e = .returned (.tuple #[v', .int .i64 (((matchA L).2 : Nat) : Int)]) ∧ IOwn W' w.heap.size v' (matchA L).1 ∧ Below w.heap.size w W' := by
  have HP := Lib.hid (partners_c w v L hT hl)
  obtain ⟨a0, c0, rfl, _⟩ := hT.form
  by_cases h0 : errA L = 0
  · obtain ⟨ps, hs, _, hm⟩ := errA_ok h0
    have HM := Lib.hid hm
    have HS := Lib.hid hs
    have H0 := Lib.hid h0
    have he : (((matchA L).2 : Nat) : Int) = 0 := by show ((errA L : Nat) : Int) = 0; rw [h0]; rfl
    rw [he]
    clear hs hm h0 he hT
    go_enter Tryd.func12, Tryd.ntmps12
    go_wp2_with fail
    refine HP.out.mono ?_
    rintro e w1 ⟨hb1, ⟨_, g, cap, ps', rfl, hs', ho⟩ | ⟨hn, _⟩⟩
    · have HB := Lib.hid hb1
      have HO : Hid (IOwn w1 w.heap.size (.slice (some ⟨g, 0, none⟩) L.length cap) (matchA L).1) := Lib.hid (by
        have h2 := HS.out
        rw [hs'] at h2
        cases h2
        rw [HM.out]
        exact ho)
      clear hb1 ho hs'
      go_wp2_with fail
      refine (number_nil _).mono ?_
      rintro e w2 ⟨rfl, hb2⟩
      have HB2 := Lib.hid (HB.out.trans (hb2.mono HB.out.size))
      have HO2 := Lib.hid (own_kept HO.out hb2)
      clear hb2
      go_wp2_with fail
      refine bodyPost_ret (v := .tuple #[.slice (some ⟨g, 0, none⟩) L.length cap, .int .i64 0]) (by simp [results, Tryd.f12, go_sem]) rfl ⟨_, rfl, HO2.out, HB2.out⟩
    · exact absurd H0.out hn
  · obtain ⟨hm, _⟩ := errA_no h0
    have HM := Lib.hid hm
    have H0 := Lib.hid h0
    have HG := Lib.hid hG
    obtain ⟨z, hz⟩ : ∃ z : Nat, z = errA L := ⟨_, rfl⟩
    have he : (((matchA L).2 : Nat) : Int) = (z : Int) := by show ((errA L : Nat) : Int) = (z : Int); rw [hz]
    have HZ := Lib.hid hz
    rw [he]
    clear hm h0 he hT hz hG
    go_enter Tryd.func12, Tryd.ntmps12
    go_wp2_with fail
    refine HP.out.mono ?_
    rintro e w1 ⟨hb1, ⟨hn, _⟩ | ⟨_, a, rfl⟩⟩
    · exact absurd hn H0.out
    · have HB := Lib.hid hb1
      have HNF := Lib.hid (number_fault (a : Int) (z : Int) w1 (HG.out.step hb1))
      rw [← HZ.out]
      clear hb1
      go_wp2_with fail
      refine HNF.out.mono ?_
      rintro e w2 ⟨rfl, hb2⟩
      have HB2 := Lib.hid (HB.out.trans (hb2.mono HB.out.size))
      clear hb2
      go_wp2_with fail
      refine bodyPost_ret (v := .tuple #[.slice none 0 0, .int .i64 (z : Int)]) (by simp [results, Tryd.f12, go_sem]) rfl ⟨_, rfl, by rw [HM.out]; exact IOwn.nil _ _, HB2.out⟩
end Go.Proofs.YthbiflmmlcmncaaDoor.Ti
