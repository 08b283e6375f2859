/- The call Split: its answer, as the plain one has it (by wip/gen/gr_spl.py). -/
import Derived.Test.YthbiflmmlcmncaaDoorGrOwn
import Derived.Test.YthbiflmmlcmncaaDoorGyE
import Derived.Test.YthbiflmmlcmncaaDoorGyD
namespace Go.Proofs.YthbiflmmlcmncaaDoor.Ti
open Go Go.RowKit Go.Shelf
attribute [local go_sem] Oper.semAt_some

/-- A list in memory is not in a box of a slice, nor in one of a number. -/
theorem TL.exc {W0 W : World} {Q B : Nat} {tq tb : TypeId} {va : Option Addr} {vn vc : Nat} {z : Int} {x : Value} {P : List Tk} (h : TL W0 x P) (r1 : Row W0 Q tq #[.slice va vn vc]) (r2 : Row W0 B tb #[.int .i64 z])
    (hz : W0.heap.size ≤ W.heap.size) (he : ∀ k, k < W0.heap.size → k ≠ Q → k ≠ B → W.heap[k]? = W0.heap[k]?) : TL W x P := by
  refine ⟨h.form, fun h0 => ?_⟩
  obtain ⟨g, o, c, e, hg, hc⟩ := h.cells h0
  obtain ⟨y0, y1, _⟩ := hc 0 _ (List.getElem?_eq_getElem h0)
  have n1 : g ≠ Q := fun eq => by
    subst eq
    rw [r1.cell] at y0
    cases o with
    | zero => simp at y0
    | succ o => simp at y0
  have n2 : g ≠ B := fun eq => by
    subst eq
    rw [r2.cell] at y1
    simp at y1
  have hb := he g hg n1 n2
  refine ⟨g, o, c, e, Nat.lt_of_lt_of_le hg hz, fun j t hj => ?_⟩
  obtain ⟨z0, z1, z2⟩ := hc j t hj
  exact ⟨(World.cell?_of_block (w := W0) (a := ⟨g, o + j * 3, none⟩) hb).trans z0, (World.cell?_of_block (w := W0) (a := ⟨g, o + j * 3 + 1, none⟩) hb).trans z1, (World.cell?_of_block (w := W0) (a := ⟨g, o + j * 3 + 2, none⟩) hb).trans z2⟩
theorem PartsAt.exc {W0 W : World} {Q B : Nat} {tq tb : TypeId} {va : Option Addr} {vn vc : Nat} {z : Int} {VS : List Value} {PS : List (List Tk)} (h : PartsAt W0 VS PS) (r1 : Row W0 Q tq #[.slice va vn vc]) (r2 : Row W0 B tb #[.int .i64 z])
    (hz : W0.heap.size ≤ W.heap.size) (he : ∀ k, k < W0.heap.size → k ≠ Q → k ≠ B → W.heap[k]? = W0.heap[k]?) : PartsAt W VS PS :=
  ⟨h.len, fun j x P hx hP => (h.at_ j x P hx hP).exc r1 r2 hz he, h.one⟩
/-- Each leads somewhere. -/
def SomeS (VS : List Value) : Prop := ∀ x ∈ VS, ∃ ad l c, x = Value.slice (some ad) l c
theorem SomeS.nil : SomeS [] := fun x h => by cases h
theorem SomeS.snoc {VS : List Value} (h : SomeS VS) (ad : Addr) (l c : Nat) : SomeS (VS ++ [.slice (some ad) l c]) := fun x hx => by
  rcases List.mem_append.1 hx with e | e
  · exact h x e
  · exact ⟨ad, l, c, List.mem_singleton.1 e⟩
theorem sliced_some (a : Addr) (l h m s : Nat) : ∃ sa sl sc, Value.slice (some sa) sl sc = sliced (some a) l h m s := by
  unfold sliced
  split
  · exact ⟨_, _, _, rfl⟩
  · exact ⟨_, _, _, rfl⟩
/-- What the loop keeps: the parts so far, in their box; where the next one begins, in its box; all else is as it was. -/
structure SI (W0 : World) (Q B n : Nat) (L : List Tk) (S : List UInt8) (pre : List (Ix n)) (W : World) : Prop where
  exc : ∀ k, k < W0.heap.size → k ≠ Q → k ≠ B → W.heap[k]? = W0.heap[k]?
  size : W0.heap.size ≤ W.heap.size
  below : Below Q W0 W
  ex : ∃ (v : Value) (VS : List Value) (f : Nat), Row W Q 34 #[v] ∧ Row W B 3 #[.int .i64 (f : Int)] ∧ W.ownsRow W0.heap.size 22 1 v VS.length VS ∧
    (InOrder pre → f = (splK L S pre.length).2 ∧ PartsAt W0 VS (splK L S pre.length).1 ∧ SomeS VS)
theorem SI.still {W0 : World} {Q B n : Nat} {L : List Tk} {S : List UInt8} {pre : List (Ix n)} {W W' : World} (q : SI W0 Q B n L S pre W) (hs : Still W W') (hb : Below W0.heap.size W W') (hQ : Q ≤ W0.heap.size) : SI W0 Q B n L S pre W' := by
  obtain ⟨v, VS, f, h1, h2, h3, h4⟩ := q.ex
  exact ⟨fun k hk n1 n2 => (hb.block k hk).trans (q.exc k hk n1 n2), Nat.le_trans q.size hb.size, q.below.trans (hb.mono hQ), v, VS, f, Row.still h1 (by decide) hs, Row.still h2 (by decide) hs, own_still h3 (by decide) hs, h4⟩
/-- A slice of the new list is a part of it. -/
theorem slicedTL {W : World} {R n : Nat} {L : List Tk} (h : TL W (.slice (some ⟨R, 0, none⟩) n n) L) (hn : L.length = n) {a b c : Nat} (h1 : a ≤ b) (h2 : b ≤ c) (h3 : c ≤ n) : TL W (sliced (some ⟨R, 0, none⟩) a b c 3) (cutL L a b) := by
  have hl := cutL_len L h1 (by omega)
  have hf := h.form
  obtain ⟨a0, c0, e, _, hm⟩ := hf
  have hm2 : n ≤ maxLen := by cases e; exact hm
  by_cases hac : c = a
  · subst hac
    obtain rfl : b = c := by omega
    have h0 : cutL L b b = [] := List.length_eq_zero_iff.1 (by rw [hl]; omega)
    rw [h0]
    refine ⟨⟨some ⟨R, 0, none⟩, 0, by simp [sliced], Nat.le_refl _, Nat.zero_le _⟩, fun h => by simp at h⟩
  · have hs := h.sub hn.symm (a := a) (b := b) h1 (by omega)
    obtain ⟨_, _, e2, _⟩ := hs.form
    refine ⟨⟨some ⟨R, 0 + a * 3, none⟩, c - a, ?_, by omega, by omega⟩, fun h0 => ?_⟩
    · rw [hl]
      simp [sliced, hac, Addr.add]
      omega
    · obtain ⟨g', o', c', e3, hg, hc⟩ := hs.cells h0
      rw [hl] at e3
      injection e3 with q1 _ _
      cases q1
      refine ⟨_, _, c - a, ?_, hg, hc⟩
      simp [sliced, hac, Addr.add, hl]
      omega
theorem sep_val {L : List Tk} {S : List UInt8} {ps : List (Nat × Nat)} (hI : Inv L L.length ([], ps)) {k : Nat} {t : Tk} (ht : L[k]? = some t) : sep L S k = (decide (depT L k = 0) && decide (part ps k < 0) && isSgn t S) := by
  rw [sep_at S ht]
  obtain ⟨p1, p2, p3⟩ := hI.tells ht
  cases hO : isO t with
  | true =>
    obtain ⟨b, _, e, _⟩ := p1 hO
    have : ¬ part ps k < 0 := by omega
    simp [this]
  | false =>
    cases hC : isC t with
    | true =>
      obtain ⟨b, _, e, _⟩ := p2 hC
      have : ¬ part ps k < 0 := by omega
      simp [this]
    | false =>
      have : part ps k < 0 := by rw [p3 hO hC]; decide
      simp [this]

set_option maxRecDepth 100000 in
set_option maxHeartbeats 16000000 in
/-- Split(l, glyph). -/
theorem gsplit_m (w : World) (hG : EG w) (v : Value) (L : List Tk) (S : List UInt8) (hT : TL w v L) (hl : L.length ≤ 1000) (hbt : ∀ t ∈ L, t.text.length ≤ 10000 ∧ t.glyph.length ≤ 10000) :
    Calls Tryd.prog 19 #[v, .string (bs S)] w fun e W' => ∃ v' VS, e = .returned (.tuple #[v', .int .i64 ((errA L : Nat) : Int)]) ∧ W'.ownsRow w.heap.size 22 1 v' VS.length VS ∧ PartsAt W' VS (splitA L S) ∧ Below w.heap.size w W' ∧ SomeS VS := by
  have hP : ∀ W, Below w.heap.size w W → _ := fun W hb => partners_c W v L (hT.below hb) hl
  have hOw : ∀ W, Below w.heap.size w W → Calls Tryd.prog 35 #[v] W fun e W' => ∃ R, e = .returned (.slice (some ⟨R, 0, none⟩) L.length L.length) ∧ TL W' (.slice (some ⟨R, 0, none⟩) L.length L.length) L ∧ Below W.heap.size W W' ∧ W.heap.size ≤ R ∧ R < W'.heap.size := fun W hb =>
    (own_c W v L (hT.below hb) hl hbt).mono fun e W' ⟨h1, h2, h3, h4⟩ => ⟨_, h1, h2, h3, Nat.le_refl _, h4⟩
  have hNUM : ∀ (a : Int) W, Below w.heap.size w W → _ := fun a W hb => number_fault a ((errA L : Nat) : Int) W (hG.step hb)
  have HIS0 := Lib.hid (fun (t : Tk) W => isSign_c t S W)
  have HTL := Lib.hid hT
  obtain ⟨a0, c0, rfl, hc1, hc2⟩ := hT.form
  obtain ⟨i0, hi, hz0, hz1, hz2⟩ := infoS
  obtain ⟨n, hn⟩ : ∃ n, n = L.length := ⟨_, rfl⟩
  have HN := Lib.hid hn.symm
  obtain ⟨xs, hxs⟩ : ∃ xs, xs = bs S := ⟨_, rfl⟩
  rw [← hn] at hl hc1 hP hOw ⊢
  rw [← hxs] at HIS0 ⊢
  unfold maxLen at hc2
  have HP := Lib.hid hP
  have HOW := Lib.hid hOw
  have HNUM := Lib.hid hNUM
  have hA : Below w.heap.size w ((w.alloc (.cells #[.slice a0 n c0] 22)).alloc (.cells #[.string xs] 9)) := ((Below.refl _ w).alloc (Nat.le_refl _) _).alloc (by simp) _
  have HA := Lib.hid hA
  have HRA : Hid (Row ((w.alloc (.cells #[.slice a0 n c0] 22)).alloc (.cells #[.string xs] 9)) w.heap.size 22 #[.slice a0 n c0] ∧ Row ((w.alloc (.cells #[.slice a0 n c0] 22)).alloc (.cells #[.string xs] 9)) (w.heap.size + 1) 9 #[.string xs] ∧ ((w.alloc (.cells #[.slice a0 n c0] 22)).alloc (.cells #[.string xs] 9)).heap.size = w.heap.size + 2) :=
    (Lib.hid ⟨(Row.new _ _ _).alloc _, Row.at _ _ _ _ (by simp), by simp⟩)
  clear hT hbt hP hOw hNUM hA hn hxs hG
  refine (callsIn_wide (n := 5)).1 ?_
  refine callsIn_of_wp_marks Tryd.func19 rfl trivial ?_ rfl
  simp only [Tryd.ntmps19, List.size_toArray, List.length_cons, List.length_nil, Nat.reduceAdd, Nat.reduceSub, Array.replicate_succ, Array.replicate_zero, List.push_toArray, List.append_toArray, List.nil_append, List.cons_append]
  gi_wp2
  refine ⟨trivial, ?_⟩
  refine (callsIn_wide.2 (HP.out _ HA.out)).mono ?_
  rintro e w1 ⟨hb1, ⟨h0, g, cap, ps, rfl, hs, ho⟩ | ⟨h0, a, rfl⟩⟩
  · obtain ⟨A1, A2, A3⟩ := HRA.out
    rw [A3] at hb1 ho
    have hown := ho
    change w1.ownsRow (w.heap.size + 2) 3 1 _ (parts n ps).length _ at hown
    rw [parts_len] at hown
    have hg1 := hown.lt g rfl
    have hz1' : w.heap.size + 2 ≤ w1.heap.size := by have := hb1.size; rw [A3] at this; exact this
    have hbw1 : Below w.heap.size w w1 := HA.out.trans (hb1.mono (by omega))
    have A1' : Row w1 w.heap.size 22 #[.slice a0 n c0] := (hb1.block w.heap.size (by omega)).trans A1
    have A2' : Row w1 (w.heap.size + 1) 9 #[.string xs] := (hb1.block (w.heap.size + 1) (by omega)).trans A2
    have hcell : ∀ W, Below w1.heap.size w1 W → ∀ k, k < n → W.cell? ⟨g, k, none⟩ = some (.int .i64 (part ps k)) := fun W hb k hk => by
      rw [(own_kept hown hb).cellAt k (by omega)]
      exact nums_at (parts_at ps hk)
    have c2 : ∀ W, Below w1.heap.size w1 W → W.cell? ⟨w.heap.size, 0, none⟩ = some (.slice a0 n c0) := fun W hb => (hb.cell (p := ⟨w.heap.size, 0, none⟩) A1'.lt).trans (A1'.cell 0)
    have d2 := c2 w1 (Below.refl _ _)
    have hX2 : Below w1.heap.size w1 ((w1.alloc (.cells #[.slice (some ⟨g, 0, none⟩) n cap] 45)).alloc (.cells #[.slice none 0 0] 34)) := ((Below.refl _ _).alloc (Nat.le_refl _) _).alloc (by simp) _
    have HX2 := Lib.hid hX2
    have hX2w : Below w.heap.size w ((w1.alloc (.cells #[.slice (some ⟨g, 0, none⟩) n cap] 45)).alloc (.cells #[.slice none 0 0] 34)) := hbw1.trans (hX2.mono (by omega))
    have HO2 := Lib.hid (HOW.out _ hX2w)
    have t0 : w.heap.size < w1.heap.size := by omega
    have t1 : w.heap.size < w1.heap.size + 1 := by omega
    have HB1 := Lib.hid hbw1
    have HCELL := Lib.hid hcell
    have HS := Lib.hid hs
    have HE : Hid (errA L = 0) := Lib.hid h0
    have HG1 := Lib.hid hg1
    have HZ1 := Lib.hid hz1'
    have HA1 := Lib.hid A1'
    have HA2 := Lib.hid A2'
    have HRP : Hid (Row ((w1.alloc (.cells #[.slice (some ⟨g, 0, none⟩) n cap] 45)).alloc (.cells #[.slice none 0 0] 34)) w1.heap.size 45 #[.slice (some ⟨g, 0, none⟩) n cap]) := Lib.hid ((Row.new _ _ _).alloc _)
    have HRQ : Hid (Row ((w1.alloc (.cells #[.slice (some ⟨g, 0, none⟩) n cap] 45)).alloc (.cells #[.slice none 0 0] 34)) (w1.heap.size + 1) 34 #[.slice none 0 0]) := Lib.hid (Row.at _ _ _ _ (by simp))
    clear hb1 hcell hown ho hs h0 hg1 HP A1 A2 A3 hz1' hbw1 A1' A2' c2 hX2 hX2w HOW HNUM HRA
    gi_wp2_with (first
      | (refine ⟨trivial, ?_⟩; gi_at_call 35; refine (callsIn_wide.2 HO2.out).mono ?_; rintro e w3 ⟨R, rfl, hR, hb3, hR1, hR2⟩; have HR := Lib.hid hR; have HB3 := Lib.hid hb3; have HR1 := Lib.hid (And.intro hR1 hR2); have e6 := (HRP.out.below hb3 HRP.out.lt).cell 0; simp only [List.getElem?_toArray, List.getElem?_cons_zero] at e6; have hsz3 : w1.heap.size + 2 ≤ w3.heap.size := (by have := hb3.size; simp at this; omega); have t2 : w1.heap.size < w3.heap.size := (by omega); have t3 : w1.heap.size < w3.heap.size + 1 := (by omega); clear hR hb3 hR1 hR2)
      | (refine ⟨trivial, ?_⟩; gi_at_call 32; refine (depths_in _ 4 trivial rfl _ _ _ _).mono ?_; rintro e w' ⟨rfl, rfl⟩))
    rename_i Q' K hK
    obtain ⟨W0, hW0⟩ : ∃ W0, ((w3.alloc (.cells #[.slice (some ⟨R, 0, none⟩) n n] 22)).alloc (.cells #[.int .i64 0] 3)).alloc (.cells #[.slice (some ⟨g, 0, none⟩) n cap] 45) = W0 := ⟨_, rfl⟩
    have hsz : W0.heap.size = w3.heap.size + 3 := by rw [← hW0]; simp
    have hb30 : Below w3.heap.size w3 W0 := by rw [← hW0]; exact (((Below.refl _ w3).alloc (Nat.le_refl _) _).alloc (by simp) _).alloc (by simp; omega) _
    have rR : Row W0 w3.heap.size 22 #[.slice (some ⟨R, 0, none⟩) n n] := by rw [← hW0]; exact ((Row.new _ _ _).alloc _).alloc _
    have rF : Row W0 (w3.heap.size + 1) 3 #[.int .i64 0] := by rw [← hW0]; exact (Row.at _ _ _ _ (by simp)).alloc _
    have rD : Row W0 (w3.heap.size + 1 + 1) 45 #[.slice (some ⟨g, 0, none⟩) n cap] := by rw [← hW0]; exact Row.at _ _ _ _ (by simp)
    have hx3 : Below w1.heap.size w1 w3 := HX2.out.trans (HB3.out.mono HX2.out.size)
    have hb0 : Below w1.heap.size w1 W0 := hx3.trans (hb30.mono (by omega))
    have rP : Row W0 w1.heap.size 45 #[.slice (some ⟨g, 0, none⟩) n cap] := (HRP.out.below HB3.out HRP.out.lt).below hb30 (by omega)
    have rQ : Row W0 (w1.heap.size + 1) 34 #[.slice none 0 0] := (HRQ.out.below HB3.out HRQ.out.lt).below hb30 (by omega)
    have rL : Row W0 w.heap.size 22 #[.slice a0 n c0] := (hb0.block _ t0).trans HA1.out
    have hzw := HZ1.out
    have rG : Row W0 (w.heap.size + 1) 9 #[.string xs] := (hb0.block _ (by omega)).trans HA2.out
    have tR : TL W0 (.slice (some ⟨R, 0, none⟩) n n) L := HR.out.below hb30
    have hbw : Below w.heap.size w W0 := HB1.out.trans (hb0.mono (by omega))
    have cB := rD.cell 0
    simp only [List.getElem?_toArray, List.getElem?_cons_zero] at cB
    have hg1 := HG1.out
    have hr1 := HR1.out.2
    have hds := dep_stopsO (w3.heap.size + 1 + 1) n g cap L ps HN.out hl HS.out W0 (by omega) (by omega) cB (HCELL.out W0 hb0)
    have hI : Inv L L.length ([], ps) := inv_at L L.length _ (Nat.le_refl _) (by rw [HN.out]; exact HS.out)
    -- what a world that keeps all but the two boxes holds
    have hcl : ∀ X : World, (∀ k, k < W0.heap.size → k ≠ w1.heap.size + 1 → k ≠ w3.heap.size + 1 → X.heap[k]? = W0.heap[k]?) → ∀ b o' val, b < W0.heap.size → b ≠ w1.heap.size + 1 → b ≠ w3.heap.size + 1 → W0.cell? ⟨b, o', none⟩ = some val → X.cell? ⟨b, o', none⟩ = some val := fun X hX b o' val h1 h2 h3 hv =>
      (World.cell?_of_block (w := W0) (a := ⟨b, o', none⟩) (hX b h1 h2 h3)).trans hv
    have hlc : ∀ k t, L[k]? = some t → ∃ q o, a0 = some ⟨q, o, none⟩ ∧ q < w.heap.size ∧ W0.cell? ⟨q, o + k * 3, none⟩ = some (.int .i64 t.kind) ∧ W0.cell? ⟨q, o + k * 3 + 1, none⟩ = some (.string (bs t.text)) ∧ W0.cell? ⟨q, o + k * 3 + 2, none⟩ = some (.string (bs t.glyph)) := fun k t ht => by
      obtain ⟨q, o, c', e, hq, hc⟩ := HTL.out.cells (by have := (List.getElem?_eq_some_iff.1 ht).1; omega)
      obtain ⟨z0, z1, z2⟩ := hc k t ht
      injection e with e1 _ _
      exact ⟨q, o, e1, hq, (hbw.cell (p := ⟨q, o + k * 3, none⟩) hq).trans z0, (hbw.cell (p := ⟨q, o + k * 3 + 1, none⟩) hq).trans z1, (hbw.cell (p := ⟨q, o + k * 3 + 2, none⟩) hq).trans z2⟩
    have HIV := Lib.hid hI
    have HCLX := Lib.hid hcl
    have HLC := Lib.hid hlc
    have HCG := Lib.hid (fun k (hk : k < n) => HCELL.out W0 hb0 k hk)
    have HTR := Lib.hid tR
    have HBW := Lib.hid hbw
    have HROWS := Lib.hid (And.intro rR (And.intro rF (And.intro rP (And.intro rQ (And.intro rL rG)))))
    have HSZ := Lib.hid hsz
    have hn0 : W0.heap.size = w3.heap.size + 3 := hsz
    have hrun : ∀ (a b c : Nat), a ≤ b → b ≤ c → c ≤ n → ∀ W : World, (Instr.slice 22 (.slice (some ⟨R, 0, none⟩) n n) (some (.int .i64 (a : Int))) (some (.int .i64 (b : Int))) (some (.int .i64 (c : Int)))).run Tryd.prog W = .ok (sliced (some ⟨R, 0, none⟩) a b c 3) W := fun a b c h1 h2 h3 W => by
      rw [run_slice_lhm W 22 (some ⟨R, 0, none⟩) n n Tryd.underlying22 .i64 .i64 .i64 a b c (by omega) (by omega) (by omega) (by omega)]
      rfl
    have hrun2 : ∀ (a : Nat), a ≤ n → ∀ W : World, (Instr.slice 22 (.slice (some ⟨R, 0, none⟩) n n) (some (.int .i64 (a : Int))) none none).run Tryd.prog W = .ok (sliced (some ⟨R, 0, none⟩) a n n 3) W := fun a h1 W => by
      rw [run_slice_l W 22 (some ⟨R, 0, none⟩) n n Tryd.underlying22 .i64 a (by omega) (by omega)]
      rfl
    have HRUN := Lib.hid hrun
    have HRUN2 := Lib.hid hrun2
    rw [hW0]
    clear hW0 cB hb30 hx3 hb0 rR rF rD rP rQ rL rG tR hbw hI hcl hlc HCELL HRP HRQ HX2 HO2 HB3 HR HTL e6 hsz hrun hrun2
    have hQ0 : SI W0 (w1.heap.size + 1) (w3.heap.size + 1) n L S [] W0 := ⟨fun _ _ _ _ => rfl, Nat.le_refl _, Below.refl _ _, _, [], 0, HROWS.out.2.2.2.1, HROWS.out.2.1, World.ownsRow_nil _ _ _ _, fun _ => ⟨rfl, PartsAt.nil _, SomeS.nil⟩⟩
    refine wpIn_rangeFunc_ownO (t := 31) rfl (by omega) (gf := 43) (lb := #[.pointer (some ⟨w3.heap.size + 1 + 1, 0, none⟩)]) rfl trivial (enters_of Tryd.func43 (by kernel_rfl) rfl)
      hds KeepD.trans (fun W l r r' hl _ => KeepD.put (by omega) (by omega) _) (Below.refl _ _) (fun _ => rfl)
      (SI W0 (w1.heap.size + 1) (w3.heap.size + 1) n L S) (fun _ _ _ => False)
      (fun p X Y hs hb => hs.still (Still.step hb) (hb.1.mono (Nat.le_refl _)) (by omega))
      (fun c p X Y hs hb => hs)
      (fun p X l r r' hs hl hX => hs.still (Still.put hX) (below_put (Below.refl _ _) hl hX) (by omega))
      (fun c p X l r r' hs hl hX => hs)
      hQ0
      (fun x a' _ => a' = { tmps := #[.slice a0 n c0, .string xs, .pointer (some ⟨w.heap.size, 0, none⟩), .pointer (some ⟨w.heap.size + 1, 0, none⟩), .slice none 0 0, .int .i64 0, .pointer (some ⟨w1.heap.size, 0, none⟩), .nilIface, .pointer (some ⟨w1.heap.size + 1, 0, none⟩), .pointer (some ⟨w3.heap.size, 0, none⟩), .pointer (some ⟨w3.heap.size + 1, 0, none⟩), .int .i64 (x.1 : Int), .int .i64 ((depT L x.1 : Nat) : Int), .tuple #[.slice (some ⟨g, 0, none⟩) n cap, .nilIface], .slice a0 n c0, .tuple #[.slice (some ⟨g, 0, none⟩) n cap, .nilIface], .slice (some ⟨g, 0, none⟩) n cap, .nilIface, .nilIface, .bool false, undef, undef, .slice a0 n c0, .slice (some ⟨R, 0, none⟩) n n, .slice (some ⟨g, 0, none⟩) n cap, .func (.func 43) #[] #[.pointer (some ⟨w3.heap.size + 1 + 1, 0, none⟩)], .int .i64 (x.1 : Int), .int .i64 ((depT L x.1 : Nat) : Int), undef, undef, undef, undef, undef, undef, undef, undef, undef, undef, undef, undef, undef, undef, undef, undef, undef, undef, undef, undef, undef, undef, undef, undef, undef, undef, undef, undef, undef, undef, undef, undef, undef], defers := [] })
      (fun x a' _ X Y row hs hg hr => hs)
      ?assign ?body ?done ?stop
    case assign =>
      rintro l pre x W K' hI hsW hK'
      dsimp only [encD]
      gi_wp2
      exact hK' _ _ (KeepsFrom.refl _ _) ⟨Nat.le_refl _, rfl, rfl⟩ hI rfl
    case body =>
      rintro l pre ⟨k, hlt⟩ a' W hl' ⟨r, hr⟩ ⟨hexc, hsW, hbq, v, VS, f, rq, rf, hov, hfp⟩ rfl hord
      dsimp only at hord ⊢
      obtain ⟨hin, hlen⟩ := inOrder_of hord
      obtain ⟨hf, hPA, hSM⟩ := hfp hin
      rw [hlen] at hf hPA
      have hfk : f ≤ k := by rw [hf]; exact splK_le L S k
      have hvl : VS.length ≤ k := by rw [hPA.len]; exact splK_len L S k
      have ht : L[k]? = some (tokAt L k) := tokAt_of (by rw [HN.out]; exact hlt)
      have hsep := sep_val (S := S) HIV.out ht
      obtain ⟨q, o, rfl, hq, z0, z1, z2⟩ := HLC.out k _ ht
      obtain ⟨dk, hdk⟩ : ∃ d, d = depT L k := ⟨_, rfl⟩
      obtain ⟨z, hz⟩ : ∃ z, z = part ps k := ⟨_, rfl⟩
      obtain ⟨bg, hbg⟩ : ∃ b, b = isSgn (tokAt L k) S := ⟨_, rfl⟩
      have hIS := HIS0.out (tokAt L k)
      unfold tv at hIS
      rw [← hbg] at hIS hsep
      rw [← hdk, ← hz] at hsep
      obtain ⟨kd, hkd⟩ : ∃ kd : Int, kd = (tokAt L k).kind := ⟨_, rfl⟩
      obtain ⟨U, hU⟩ : ∃ U, U = bs (tokAt L k).text := ⟨_, rfl⟩
      obtain ⟨G, hGl⟩ : ∃ G, G = bs (tokAt L k).glyph := ⟨_, rfl⟩
      rw [← hkd] at z0
      rw [← hU] at z1
      rw [← hGl] at z2
      rw [← hkd, ← hU, ← hGl] at hIS
      have HIS := Lib.hid hIS
      have zg := HCG.out k hlt
      rw [← hz] at zg
      obtain ⟨rR, rF, rP, rQ, rL, rG⟩ := HROWS.out
      have z6 := rP.cell 0
      have z2' := rL.cell 0
      have z3 := rG.cell 0
      have z9 := rR.cell 0
      simp only [List.getElem?_toArray, List.getElem?_cons_zero] at z6 z2' z3 z9
      have hzl := HZ1.out
      have HC : Hid (∀ X, Below W.heap.size W X → X.cell? ⟨w1.heap.size, 0, none⟩ = some (.slice (some ⟨g, 0, none⟩) n cap) ∧ X.cell? ⟨g, k, none⟩ = some (.int .i64 z) ∧ X.cell? ⟨w.heap.size, 0, none⟩ = some (.slice (some ⟨q, o, none⟩) n c0) ∧ X.cell? ⟨w.heap.size + 1, 0, none⟩ = some (.string xs) ∧ X.cell? ⟨q, o + k * 3, none⟩ = some (.int .i64 kd) ∧ X.cell? ⟨q, o + k * 3 + 1, none⟩ = some (.string U) ∧ X.cell? ⟨q, o + k * 3 + 2, none⟩ = some (.string G)) := Lib.hid (fun X hX => by
        have hX' : ∀ j, j < W0.heap.size → j ≠ w1.heap.size + 1 → j ≠ w3.heap.size + 1 → X.heap[j]? = W0.heap[j]? := fun j h1 h2 h3 => (hX.block j (by omega)).trans (hexc j h1 h2 h3)
        exact ⟨HCLX.out X hX' _ _ _ (by omega) (by omega) (by omega) z6, HCLX.out X hX' _ _ _ (by omega) (by omega) (by omega) zg, HCLX.out X hX' _ _ _ (by omega) (by omega) (by omega) z2', HCLX.out X hX' _ _ _ (by omega) (by omega) (by omega) z3, HCLX.out X hX' _ _ _ (by omega) (by omega) (by omega) z0, HCLX.out X hX' _ _ _ (by omega) (by omega) (by omega) z1, HCLX.out X hX' _ _ _ (by omega) (by omega) (by omega) z2⟩)
      have hS1 : (splK L S (k + 1)) = if sep L S k then ((splK L S k).1 ++ [cutL L (splK L S k).2 k], k + 1) else splK L S k := rfl
      have HNO : Hid (sep L S k = false → ∀ X, Below W.heap.size W X → KeepsFrom W0.heap.size W X ∧ KeepD (w3.heap.size + 1 + 1) g W X ∧ SI W0 (w1.heap.size + 1) (w3.heap.size + 1) n L S (pre ++ [⟨k, hlt⟩]) X) := Lib.hid (fun hs X hX => by
        refine ⟨Kept.from _ (Kept.below hX) hX.size, KeepD.below hX (by omega) (by omega), ⟨fun j h1 h2 h3 => (hX.block j (by omega)).trans (hexc j h1 h2 h3), Nat.le_trans hsW hX.size, hbq.trans (hX.mono (by omega)), v, VS, f, rq.below hX rq.lt, rf.below hX rf.lt, own_kept hov hX, fun _ => ?_⟩⟩
        rw [List.length_append, List.length_singleton, hlen, hS1, if_neg (by rw [hs]; decide)]
        exact ⟨hf, hPA, hSM⟩)
      have HYES : Hid (sep L S k = true → (splK L S (k + 1)).1 = (splK L S k).1 ++ [cutL L f k] ∧ (splK L S (k + 1)).2 = k + 1) := Lib.hid (fun hs => by
        rw [hS1, if_pos hs, hf]
        exact ⟨rfl, rfl⟩)
      have HSM := Lib.hid hSM
      have HEXC := Lib.hid hexc
      have HBQ := Lib.hid hbq
      have HPA := Lib.hid hPA
      have HOV := Lib.hid hov
      have HRQ := Lib.hid rq
      have HRF := Lib.hid rf
      have HZR := Lib.hid z9
      have HLEN := Lib.hid (And.intro hlen hsW)
      have HR9 := Lib.hid hr
      rw [← hdk]
      clear hexc hbq hSM hPA hov rq rf hfp hf hdk hz hbg hkd hU hGl hIS z0 z1 z2 zg z6 z2' z3 z9 rR rF rP rQ rL rG hS1 ht hr hord hin
      by_cases hd0 : dk = 0
      · subst hd0
        by_cases hzn : z < 0
        · have hzz : decide (z < 0) = true := by simpa using hzn
          have HSE : Hid (sep L S k = bg) := Lib.hid (by rw [hsep]; simp [hzn])
          clear hsep
          gi_wp2
          refine wpIn_region_shapeG (by kernel_rfl) (by kernel_rfl) (fun i => [Value.int .i64 0, .bool true, .bool true, .slice (some ⟨g, 0, none⟩) n cap, .int .i64 (k : Int), .pointer (some ⟨g, k, none⟩), .int .i64 z, .bool true, .bool true, .bool true, .slice (some ⟨q, o, none⟩) n c0, .int .i64 (k : Int), .pointer (some ⟨q, o + k * 3, none⟩), .agg #[.int .i64 kd, .string U, .string G], .string xs, .bool bg, .bool bg].getD i undef) { tmps := #[.slice (some ⟨q, o, none⟩) n c0, .string xs, .pointer (some ⟨w.heap.size, 0, none⟩), .pointer (some ⟨w.heap.size + 1, 0, none⟩), .slice none 0 0, .int .i64 0, .pointer (some ⟨w1.heap.size, 0, none⟩), .nilIface, .pointer (some ⟨w1.heap.size + 1, 0, none⟩), .pointer (some ⟨w3.heap.size, 0, none⟩), .pointer (some ⟨w3.heap.size + 1, 0, none⟩), .int .i64 (k : Int), .int .i64 0, .tuple #[.slice (some ⟨g, 0, none⟩) n cap, .nilIface], .slice (some ⟨q, o, none⟩) n c0, .tuple #[.slice (some ⟨g, 0, none⟩) n cap, .nilIface], .slice (some ⟨g, 0, none⟩) n cap, .nilIface, .nilIface, .bool false, undef, undef, .slice (some ⟨q, o, none⟩) n c0, .slice (some ⟨R, 0, none⟩) n n, .slice (some ⟨g, 0, none⟩) n cap, .func (.func 43) #[] #[.pointer (some ⟨w3.heap.size + 1 + 1, 0, none⟩)], .int .i64 (k : Int), .int .i64 0, .int .i64 0, .bool true, .bool true, .slice (some ⟨g, 0, none⟩) n cap, .int .i64 (k : Int), .pointer (some ⟨g, k, none⟩), .int .i64 z, .bool true, .bool true, .bool true, .slice (some ⟨q, o, none⟩) n c0, .int .i64 (k : Int), .pointer (some ⟨q, o + k * 3, none⟩), .agg #[.int .i64 kd, .string U, .string G], .string xs, .bool bg, .bool bg, undef, undef, undef, undef, undef, undef, undef, undef, undef, undef, undef, undef, undef, undef, undef, undef], defers := [] } ?_ (fun _ X => Below W.heap.size W X) (Below.refl W.heap.size W).drew ?_ ?_
          · kernel_rfl
          · intro i o listed a' w' ho hsz hu haf hS hJ
            have hi : i < 17 := (Array.getElem?_eq_some_iff.1 ho).1
            obtain rfl | rfl | rfl | rfl | rfl | rfl | rfl | rfl | rfl | rfl | rfl | rfl | rfl | rfl | rfl | rfl | rfl : i = 0 ∨ i = 1 ∨ i = 2 ∨ i = 3 ∨ i = 4 ∨ i = 5 ∨ i = 6 ∨ i = 7 ∨ i = 8 ∨ i = 9 ∨ i = 10 ∨ i = 11 ∨ i = 12 ∨ i = 13 ∨ i = 14 ∨ i = 15 ∨ i = 16 := by omega
            · cases ho
              refine opG_plain rfl rfl ?_
              have q12 : a'.tmps[12]? = some (.int .i64 0) := (hS.tmpBase 12 (by kernel_rfl)).trans rfl
              refine op_val (.int .i64 0) w' (fun _ _ => trivial) ?_ ⟨rfl, hJ⟩
              rw [Oper.semAt_plain _ _ _ (by intro c h; cases h)]
              simp [execOp, q12, go_sem]
            · cases ho
              refine opG_plain rfl rfl ?_
              have q28 : a'.tmps[28]? = some (.int .i64 0) := hS.tmpSet 0 _ 28 rfl rfl (by simp) (haf ⟨0, .data⟩ (Array.mem_of_getElem? (i := 0) rfl) rfl)
              refine op_val (.bool true) w' (fun _ _ => trivial) ?_ ⟨rfl, hJ⟩
              rw [Oper.semAt_plain _ _ _ (by intro c h; cases h)]
              simp [execOp, q28, go_sem]
            · cases ho
              refine opG_plain rfl rfl ?_
              have q29 : a'.tmps[29]? = some (.bool true) := hS.tmpSet 1 _ 29 rfl rfl (by simp) (haf ⟨1, .data⟩ (Array.mem_of_getElem? (i := 0) rfl) rfl)
              refine op_val (.bool true) w' (fun _ _ => trivial) ?_ ⟨rfl, hJ⟩
              rw [Oper.semAt_plain _ _ _ (by intro c h; cases h)]
              simp [execOp, q29, go_sem]
            · cases ho
              have qg : a'.tmps[30]? = some (.bool true) := hS.tmpSet 2 _ 30 rfl rfl (by simp) (haf ⟨2, .guard⟩ (Array.mem_of_getElem? (i := 0) rfl) rfl)
              refine opG_want rfl rfl rfl rfl qg ?_
              have q6 : a'.tmps[6]? = some (.pointer (some ⟨w1.heap.size, 0, none⟩)) := (hS.tmpBase 6 (by kernel_rfl)).trans rfl
              have c6 := (HC.out _ hJ).1
              refine op_val (.slice (some ⟨g, 0, none⟩) n cap) w' (fun _ _ => trivial) ?_ ⟨rfl, hJ⟩
              rw [Oper.semAt_plain _ _ _ (by intro c h; cases h)]
              simp [execOp, q6, c6, go_sem]
            · cases ho
              have qg : a'.tmps[30]? = some (.bool true) := hS.tmpSet 2 _ 30 rfl rfl (by simp) (haf ⟨2, .guard⟩ (Array.mem_of_getElem? (i := 0) rfl) rfl)
              refine opG_want rfl rfl rfl rfl qg ?_
              have q11 : a'.tmps[11]? = some (.int .i64 (k : Int)) := (hS.tmpBase 11 (by kernel_rfl)).trans rfl
              refine op_val (.int .i64 (k : Int)) w' (fun _ _ => trivial) ?_ ⟨rfl, hJ⟩
              rw [Oper.semAt_plain _ _ _ (by intro c h; cases h)]
              simp [execOp, q11, go_sem]
            · cases ho
              have qg : a'.tmps[30]? = some (.bool true) := hS.tmpSet 2 _ 30 rfl rfl (by simp) (haf ⟨2, .guard⟩ (Array.mem_of_getElem? (i := 2) rfl) rfl)
              refine opG_want rfl rfl rfl rfl qg ?_
              have q31 : a'.tmps[31]? = some (.slice (some ⟨g, 0, none⟩) n cap) := hS.tmpSet 3 _ 31 rfl rfl (by simp) (haf ⟨3, .data⟩ (Array.mem_of_getElem? (i := 0) rfl) rfl)
              have q32 : a'.tmps[32]? = some (.int .i64 (k : Int)) := hS.tmpSet 4 _ 32 rfl rfl (by simp) (haf ⟨4, .data⟩ (Array.mem_of_getElem? (i := 1) rfl) rfl)
              skip
              refine op_val (.pointer (some ⟨g, k, none⟩)) w' (fun _ _ => trivial) ?_ ⟨rfl, hJ⟩
              rw [Oper.semAt_plain _ _ _ (by intro c h; cases h)]
              simp [execOp, q31, q32, hlt, go_sem]
            · cases ho
              have qg : a'.tmps[30]? = some (.bool true) := hS.tmpSet 2 _ 30 rfl rfl (by simp) (haf ⟨2, .guard⟩ (Array.mem_of_getElem? (i := 1) rfl) rfl)
              refine opG_want rfl rfl rfl rfl qg ?_
              have q33 : a'.tmps[33]? = some (.pointer (some ⟨g, k, none⟩)) := hS.tmpSet 5 _ 33 rfl rfl (by simp) (haf ⟨5, .data⟩ (Array.mem_of_getElem? (i := 0) rfl) rfl)
              have cg := (HC.out _ hJ).2.1
              refine op_val (.int .i64 z) w' (fun _ _ => trivial) ?_ ⟨rfl, hJ⟩
              rw [Oper.semAt_plain _ _ _ (by intro c h; cases h)]
              simp [execOp, q33, cg, go_sem]
            · cases ho
              have qg : a'.tmps[30]? = some (.bool true) := hS.tmpSet 2 _ 30 rfl rfl (by simp) (haf ⟨2, .guard⟩ (Array.mem_of_getElem? (i := 1) rfl) rfl)
              refine opG_want rfl rfl rfl rfl qg ?_
              have q34 : a'.tmps[34]? = some (.int .i64 z) := hS.tmpSet 6 _ 34 rfl rfl (by simp) (haf ⟨6, .data⟩ (Array.mem_of_getElem? (i := 0) rfl) rfl)
              refine op_val (.bool true) w' (fun _ _ => trivial) ?_ ⟨rfl, hJ⟩
              rw [Oper.semAt_plain _ _ _ (by intro c h; cases h)]
              simp [execOp, q34, hzz, go_sem]
            · cases ho
              refine opG_plain rfl rfl ?_
              have q30 : a'.tmps[30]? = some (.bool true) := hS.tmpSet 2 _ 30 rfl rfl (by simp) (haf ⟨2, .data⟩ (Array.mem_of_getElem? (i := 0) rfl) rfl)
              have q35 : a'.tmps[35]? = some (.bool true) := hS.tmpSet 7 _ 35 rfl rfl (by simp) (haf ⟨7, .data⟩ (Array.mem_of_getElem? (i := 1) rfl) rfl)
              refine op_val (.bool true) w' (fun _ _ => trivial) ?_ ⟨rfl, hJ⟩
              rw [Oper.semAt_plain _ _ _ (by intro c h; cases h)]
              simp [execOp, q30, q35, go_sem]
            · cases ho
              refine opG_plain rfl rfl ?_
              have q36 : a'.tmps[36]? = some (.bool true) := hS.tmpSet 8 _ 36 rfl rfl (by simp) (haf ⟨8, .data⟩ (Array.mem_of_getElem? (i := 0) rfl) rfl)
              refine op_val (.bool true) w' (fun _ _ => trivial) ?_ ⟨rfl, hJ⟩
              rw [Oper.semAt_plain _ _ _ (by intro c h; cases h)]
              simp [execOp, q36, go_sem]
            · cases ho
              have qg : a'.tmps[37]? = some (.bool true) := hS.tmpSet 9 _ 37 rfl rfl (by simp) (haf ⟨9, .guard⟩ (Array.mem_of_getElem? (i := 0) rfl) rfl)
              refine opG_want rfl rfl rfl rfl qg ?_
              have q2 : a'.tmps[2]? = some (.pointer (some ⟨w.heap.size, 0, none⟩)) := (hS.tmpBase 2 (by kernel_rfl)).trans rfl
              have c2 := (HC.out _ hJ).2.2.1
              refine op_val (.slice (some ⟨q, o, none⟩) n c0) w' (fun _ _ => trivial) ?_ ⟨rfl, hJ⟩
              rw [Oper.semAt_plain _ _ _ (by intro c h; cases h)]
              simp [execOp, q2, c2, go_sem]
            · cases ho
              have qg : a'.tmps[37]? = some (.bool true) := hS.tmpSet 9 _ 37 rfl rfl (by simp) (haf ⟨9, .guard⟩ (Array.mem_of_getElem? (i := 0) rfl) rfl)
              refine opG_want rfl rfl rfl rfl qg ?_
              have q11 : a'.tmps[11]? = some (.int .i64 (k : Int)) := (hS.tmpBase 11 (by kernel_rfl)).trans rfl
              refine op_val (.int .i64 (k : Int)) w' (fun _ _ => trivial) ?_ ⟨rfl, hJ⟩
              rw [Oper.semAt_plain _ _ _ (by intro c h; cases h)]
              simp [execOp, q11, go_sem]
            · cases ho
              have qg : a'.tmps[37]? = some (.bool true) := hS.tmpSet 9 _ 37 rfl rfl (by simp) (haf ⟨9, .guard⟩ (Array.mem_of_getElem? (i := 2) rfl) rfl)
              refine opG_want rfl rfl rfl rfl qg ?_
              have q38 : a'.tmps[38]? = some (.slice (some ⟨q, o, none⟩) n c0) := hS.tmpSet 10 _ 38 rfl rfl (by simp) (haf ⟨10, .data⟩ (Array.mem_of_getElem? (i := 0) rfl) rfl)
              have q39 : a'.tmps[39]? = some (.int .i64 (k : Int)) := hS.tmpSet 11 _ 39 rfl rfl (by simp) (haf ⟨11, .data⟩ (Array.mem_of_getElem? (i := 1) rfl) rfl)
              skip
              refine op_val (.pointer (some ⟨q, o + k * 3, none⟩)) w' (fun _ _ => trivial) ?_ ⟨rfl, hJ⟩
              rw [Oper.semAt_plain _ _ _ (by intro c h; cases h)]
              simp [execOp, q38, q39, hlt, go_sem]
            · cases ho
              have qg : a'.tmps[37]? = some (.bool true) := hS.tmpSet 9 _ 37 rfl rfl (by simp) (haf ⟨9, .guard⟩ (Array.mem_of_getElem? (i := 1) rfl) rfl)
              refine opG_want rfl rfl rfl rfl qg ?_
              have q40 : a'.tmps[40]? = some (.pointer (some ⟨q, o + k * 3, none⟩)) := hS.tmpSet 12 _ 40 rfl rfl (by simp) (haf ⟨12, .data⟩ (Array.mem_of_getElem? (i := 0) rfl) rfl)
              obtain ⟨y0, y1, y2⟩ := (HC.out _ hJ).2.2.2.2
              refine op_val (.agg #[.int .i64 kd, .string U, .string G]) w' (fun _ _ => trivial) ?_ ⟨rfl, hJ⟩
              rw [Oper.semAt_plain _ _ _ (by intro c h; cases h)]
              simp [execOp, q40, y0, y1, y2, go_sem]
            · cases ho
              have qg : a'.tmps[37]? = some (.bool true) := hS.tmpSet 9 _ 37 rfl rfl (by simp) (haf ⟨9, .guard⟩ (Array.mem_of_getElem? (i := 0) rfl) rfl)
              refine opG_want rfl rfl rfl rfl qg ?_
              have q3 : a'.tmps[3]? = some (.pointer (some ⟨w.heap.size + 1, 0, none⟩)) := (hS.tmpBase 3 (by kernel_rfl)).trans rfl
              have c3 := (HC.out _ hJ).2.2.2.1
              refine op_val (.string xs) w' (fun _ _ => trivial) ?_ ⟨rfl, hJ⟩
              rw [Oper.semAt_plain _ _ _ (by intro c h; cases h)]
              simp [execOp, q3, c3, go_sem]
            · cases ho
              have qg : a'.tmps[37]? = some (.bool true) := hS.tmpSet 9 _ 37 rfl rfl (by simp) (haf ⟨9, .guard⟩ (Array.mem_of_getElem? (i := 3) rfl) rfl)
              refine opG_want rfl rfl rfl rfl qg ?_
              have q41 : a'.tmps[41]? = some (.agg #[.int .i64 kd, .string U, .string G]) := hS.tmpSet 13 _ 41 rfl rfl (by simp) (haf ⟨13, .data⟩ (Array.mem_of_getElem? (i := 0) rfl) rfl)
              have q42 : a'.tmps[42]? = some (.string xs) := hS.tmpSet 14 _ 42 rfl rfl (by simp) (haf ⟨14, .data⟩ (Array.mem_of_getElem? (i := 1) rfl) rfl)
              refine op_call 16 #[.agg #[.int .i64 kd, .string U, .string G], .string xs] (fun _ _ => trivial) ?_ (by omega) ((CallsIn.inRound l (callsIn_wide.2 (HIS.out w'))).mono ?_)
              · rw [Oper.semAt_plain _ _ _ (by intro c h; cases h)]
                simp [execOp, q41, q42, go_sem]
              · rintro e w5 ⟨rfl, hst⟩
                exact ⟨_, rfl, rfl, hJ.trans (hst.mono hJ.size)⟩
            · cases ho
              refine opG_plain rfl rfl ?_
              have q37 : a'.tmps[37]? = some (.bool true) := hS.tmpSet 9 _ 37 rfl rfl (by simp) (haf ⟨9, .data⟩ (Array.mem_of_getElem? (i := 0) rfl) rfl)
              have q43 : a'.tmps[43]? = some (.bool bg) := hS.tmpSet 15 _ 43 rfl rfl (by simp) (haf ⟨15, .data⟩ (Array.mem_of_getElem? (i := 1) rfl) rfl)
              refine op_val (.bool bg) w' (fun _ _ => trivial) ?_ ⟨rfl, hJ⟩
              rw [Oper.semAt_plain _ _ _ (by intro c h; cases h)]
              simp [execOp, q37, q43, go_sem]
          · intro listed X hl2 hJ
            have HB := Lib.hid hJ
            clear hJ hl2
            cases bg with
            | false =>
              gi_wp2
              exact HNO.out HSE.out X HB.out
            | true =>
              gi_wp2
              obtain ⟨hY1, hY2⟩ := HYES.out HSE.out
              have hbX := HB.out
              obtain ⟨sa, sl, sc, hSV⟩ := sliced_some ⟨R, 0, none⟩ f k k 3
              have HSVT : Hid (TL W0 (.slice (some sa) sl sc) (cutL L f k)) := Lib.hid (by rw [hSV]; exact slicedTL HTR.out HN.out hfk (Nat.le_refl _) (by omega))
              have HSV : Hid (∀ W : World, (Instr.slice 22 (.slice (some ⟨R, 0, none⟩) n n) (some (.int .i64 (f : Int))) (some (.int .i64 (k : Int))) (some (.int .i64 (k : Int)))).run Tryd.prog W = .ok (.slice (some sa) sl sc) W) := Lib.hid (by rw [hSV]; exact HRUN.out f k k hfk (Nat.le_refl _) (by omega))
              have HS1 : Hid ((Value.slice (some sa) sl sc).oneCell' = true) := Lib.hid (by rfl)
              obtain ⟨XD, hXD⟩ : ∃ XD, XD = X.drew := ⟨_, rfl⟩
              have hXz : XD.heap.size = X.heap.size := by rw [hXD]; rfl
              have rqX : Row XD (w1.heap.size + 1) 34 #[v] := by rw [hXD]; exact (HRQ.out.below hbX HRQ.out.lt).drew
              have rfX : Row XD (w3.heap.size + 1) 3 #[.int .i64 (f : Int)] := by rw [hXD]; exact (HRF.out.below hbX HRF.out.lt).drew
              have rrX : Row XD w3.heap.size 22 #[.slice (some ⟨R, 0, none⟩) n n] := by rw [hXD]; exact Row.drew ((hbX.block _ (by omega)).trans ((HEXC.out _ (by omega) (by omega) (by omega)).trans HROWS.out.1))
              have hovX : XD.ownsRow W0.heap.size 22 1 v VS.length VS := by rw [hXD]; exact (own_kept HOV.out hbX).drew
              have hbXD : Below W.heap.size W XD := by rw [hXD]; exact hbX.drew
              obtain ⟨X1, hX1⟩ : ∃ X1, X1 = XD.alloc (.cells #[Value.slice (some sa) sl sc] 22) := ⟨_, rfl⟩
              have hX1z : X1.heap.size = X.heap.size + 1 := by rw [hX1, World.size_alloc, hXz]
              have hbX1 : Below W.heap.size W X1 := by rw [hX1]; exact hbXD.alloc (by rw [hXz]; exact hbX.size) _
              have rq1 : Row X1 (w1.heap.size + 1) 34 #[v] := by rw [hX1]; exact rqX.alloc _
              have rf1 : Row X1 (w3.heap.size + 1) 3 #[.int .i64 (f : Int)] := by rw [hX1]; exact rfX.alloc _
              have rr1 : Row X1 w3.heap.size 22 #[.slice (some ⟨R, 0, none⟩) n n] := by rw [hX1]; exact rrX.alloc _
              have hov1 : X1.ownsRow W0.heap.size 22 1 v VS.length VS := by rw [hX1]; exact hovX.alloc _
              have hnew1 : ∀ (j : Nat) (u : Value), [Value.slice (some sa) sl sc][j]? = some u → X1.cell? ((⟨X.heap.size, 0, none⟩ : Addr).add j) = some u := by
                rw [hX1, ← hXz]
                exact World.news_of_block (World.alloc_heap_new XD (.cells #[Value.slice (some sa) sl sc] 22))
              obtain ⟨WD, hWD⟩ : ∃ WD : Bool → World, WD = fun b => if b then X1 else XD := ⟨_, rfl⟩
              have HW0 : Hid (WD false = XD) := Lib.hid (by rw [hWD]; rfl)
              have HW1 : Hid (WD true = XD.alloc (.cells #[Value.slice (some sa) sl sc] 22)) := Lib.hid (by rw [hWD, ← hX1]; rfl)
              have HW2 : Hid (WD true = X1) := Lib.hid (by rw [hWD]; rfl)
              have HC : Hid (∀ b, (WD b).cell? ⟨w1.heap.size + 1, 0, none⟩ = some v ∧ (WD b).cell? ⟨w3.heap.size, 0, none⟩ = some (.slice (some ⟨R, 0, none⟩) n n) ∧ (WD b).cell? ⟨w3.heap.size + 1, 0, none⟩ = some (.int .i64 (f : Int))) := Lib.hid (fun b => by
                cases b
                · rw [HW0.out]; exact ⟨rqX.cell 0, rrX.cell 0, rfX.cell 0⟩
                · rw [HW2.out]; exact ⟨rq1.cell 0, rr1.cell 0, rf1.cell 0⟩)
              have HXD : Hid (XD = X.drew) := Lib.hid hXD
              have HRQ1 := Lib.hid rq1
              have HRF1 := Lib.hid rf1
              have HOV1 := Lib.hid hov1
              have HBX1 := Lib.hid hbX1
              have HNEW1 := Lib.hid hnew1
              have HXZ := Lib.hid hXz
              have HX1Z := Lib.hid hX1z
              have HYY := Lib.hid (And.intro hY1 hY2)
              have H3 : Hid (VS.length + 1 ≤ maxLen ∧ (VS.length + 1) * 24 ≤ 140737488355328) := Lib.hid ⟨by unfold maxLen; omega, by omega⟩
              have H2 : Hid (∀ u ∈ [Value.slice (some sa) sl sc], u.oneCell' = true) := Lib.hid (by intro u hu; simp at hu; subst hu; exact HS1.out)
              have H5 : Hid (W0.heap.size ≤ X1.heap.size) := Lib.hid (by have := HLEN.out.2; have := hbX.size; omega)
              have HWZ : Hid (WD false = X.drew) := Lib.hid (by rw [HW0.out, hXD])
              clear hSV hWD hX1 hXD hXz rqX rfX rrX hovX hbXD rq1 rf1 rr1 hov1 hbX1 hnew1 hY1 hY2 hX1z hbX
              refine Ear.wpIn_region_earlyW (by kernel_rfl) (by kernel_rfl) 7 (by decide) (by kernel_rfl) (by kernel_rfl) (by kernel_rfl) (fun i => [v, .slice (some ⟨R, 0, none⟩) n n, .int .i64 (f : Int), .int .i64 (k : Int), .int .i64 (k : Int), .slice (some sa) sl sc, .slice (some ⟨X.heap.size, 0, none⟩) 1 1].getD i undef) { tmps := #[.slice (some ⟨q, o, none⟩) n c0, .string xs, .pointer (some ⟨w.heap.size, 0, none⟩), .pointer (some ⟨w.heap.size + 1, 0, none⟩), .slice none 0 0, .int .i64 0, .pointer (some ⟨w1.heap.size, 0, none⟩), .nilIface, .pointer (some ⟨w1.heap.size + 1, 0, none⟩), .pointer (some ⟨w3.heap.size, 0, none⟩), .pointer (some ⟨w3.heap.size + 1, 0, none⟩), .int .i64 (k : Int), .int .i64 0, .tuple #[.slice (some ⟨g, 0, none⟩) n cap, .nilIface], .slice (some ⟨q, o, none⟩) n c0, .tuple #[.slice (some ⟨g, 0, none⟩) n cap, .nilIface], .slice (some ⟨g, 0, none⟩) n cap, .nilIface, .nilIface, .bool false, undef, undef, .slice (some ⟨q, o, none⟩) n c0, .slice (some ⟨R, 0, none⟩) n n, .slice (some ⟨g, 0, none⟩) n cap, .func (.func 43) #[] #[.pointer (some ⟨w3.heap.size + 1 + 1, 0, none⟩)], .int .i64 (k : Int), .int .i64 0, .int .i64 0, .bool true, .bool true, .slice (some ⟨g, 0, none⟩) n cap, .int .i64 (k : Int), .pointer (some ⟨g, k, none⟩), .int .i64 z, .bool true, .bool true, .bool true, .slice (some ⟨q, o, none⟩) n c0, .int .i64 (k : Int), .pointer (some ⟨q, o + k * 3, none⟩), .agg #[.int .i64 kd, .string U, .string G], .string xs, .bool true, .bool true, v, .slice (some ⟨R, 0, none⟩) n n, .int .i64 (f : Int), .int .i64 (k : Int), .int .i64 (k : Int), .slice (some sa) sl sc, .slice (some ⟨X.heap.size, 0, none⟩) 1 1, undef, undef, undef, undef, undef, undef, undef, undef, undef], defers := [] } (by kernel_rfl) _ rfl (fun l => WD (l.getD 6 false)) HWZ.out ?_ ?_
              · intro i o listed a' him ho hsz hu haf hcl hS
                have hnx : ∀ i, i < 9 → i ≠ 6 → (listed.setIfInBounds i true).getD 6 false = listed.getD 6 false := fun i hi h1 => by
                  rw [getD_set _ _ _ _ (by rw [hsz]; exact hi), if_neg h1]
                obtain rfl | rfl | rfl | rfl | rfl | rfl | rfl : i = 0 ∨ i = 1 ∨ i = 2 ∨ i = 3 ∨ i = 4 ∨ i = 5 ∨ i = 6 := by omega
                · cases ho
                  have q8 : a'.tmps[8]? = some (.pointer (some ⟨w1.heap.size + 1, 0, none⟩)) := (hS.tmpBase 8 (by kernel_rfl)).trans rfl
                  refine ⟨by simp [Oper.about], _, ?_, .inl rfl⟩
                  rw [hnx 0 (by omega) (by omega), Oper.semAt_plain _ _ _ (by intro c h; cases h)]
                  generalize listed.getD 6 false = bb
                  obtain ⟨cq, _, _⟩ := HC.out bb
                  simp [execOp, q8, cq, go_sem]
                · cases ho
                  have q9 : a'.tmps[9]? = some (.pointer (some ⟨w3.heap.size, 0, none⟩)) := (hS.tmpBase 9 (by kernel_rfl)).trans rfl
                  refine ⟨by simp [Oper.about], _, ?_, .inl rfl⟩
                  rw [hnx 1 (by omega) (by omega), Oper.semAt_plain _ _ _ (by intro c h; cases h)]
                  generalize listed.getD 6 false = bb
                  obtain ⟨_, cr, _⟩ := HC.out bb
                  simp [execOp, q9, cr, go_sem]
                · cases ho
                  have q10 : a'.tmps[10]? = some (.pointer (some ⟨w3.heap.size + 1, 0, none⟩)) := (hS.tmpBase 10 (by kernel_rfl)).trans rfl
                  refine ⟨by simp [Oper.about], _, ?_, .inl rfl⟩
                  rw [hnx 2 (by omega) (by omega), Oper.semAt_plain _ _ _ (by intro c h; cases h)]
                  generalize listed.getD 6 false = bb
                  obtain ⟨_, _, cf⟩ := HC.out bb
                  simp [execOp, q10, cf, go_sem]
                · cases ho
                  have q11 : a'.tmps[11]? = some (.int .i64 (k : Int)) := (hS.tmpBase 11 (by kernel_rfl)).trans rfl
                  refine ⟨by simp [Oper.about], _, ?_, .inl rfl⟩
                  rw [hnx 3 (by omega) (by omega), Oper.semAt_plain _ _ _ (by intro c h; cases h)]
                  generalize listed.getD 6 false = bb
                  simp [execOp, q11, go_sem]
                · cases ho
                  have q11 : a'.tmps[11]? = some (.int .i64 (k : Int)) := (hS.tmpBase 11 (by kernel_rfl)).trans rfl
                  refine ⟨by simp [Oper.about], _, ?_, .inl rfl⟩
                  rw [hnx 4 (by omega) (by omega), Oper.semAt_plain _ _ _ (by intro c h; cases h)]
                  generalize listed.getD 6 false = bb
                  simp [execOp, q11, go_sem]
                · cases ho
                  have q46 : a'.tmps[46]? = some (.slice (some ⟨R, 0, none⟩) n n) := hS.tmpSet 1 _ 46 rfl rfl (by simp) (haf ⟨1, .data⟩ (Array.mem_of_getElem? (i := 0) rfl) rfl)
                  have q47 : a'.tmps[47]? = some (.int .i64 (f : Int)) := hS.tmpSet 2 _ 47 rfl rfl (by simp) (haf ⟨2, .data⟩ (Array.mem_of_getElem? (i := 1) rfl) rfl)
                  have q48 : a'.tmps[48]? = some (.int .i64 (k : Int)) := hS.tmpSet 3 _ 48 rfl rfl (by simp) (haf ⟨3, .data⟩ (Array.mem_of_getElem? (i := 2) rfl) rfl)
                  have q49 : a'.tmps[49]? = some (.int .i64 (k : Int)) := hS.tmpSet 4 _ 49 rfl rfl (by simp) (haf ⟨4, .data⟩ (Array.mem_of_getElem? (i := 3) rfl) rfl)
                  refine ⟨by simp [Oper.about], _, ?_, .inl rfl⟩
                  rw [hnx 5 (by omega) (by omega), Oper.semAt_plain _ _ _ (by intro c h; cases h)]
                  simp [execOp, q46, q47, q48, q49, HSV.out, go_sem]
                · cases ho
                  have q50 : a'.tmps[50]? = some (.slice (some sa) sl sc) := hS.tmpSet 5 _ 50 rfl rfl (by simp) (haf ⟨5, .data⟩ (Array.mem_of_getElem? (i := 0) rfl) rfl)
                  refine ⟨by simp [Oper.about], _, ?_, .inl rfl⟩
                  rw [hu, getD_set _ _ _ _ (by rw [hsz]; decide), if_pos rfl, HW0.out, HW1.out, Oper.semAt_plain _ _ _ (by intro c h; cases h)]
                  simp [execOp, q50, HXZ.out, go_sem]
              · change wpListIn _ _ _ _ _ _ _ (WD true)
                rw [HW2.out]
                have hlw := HOV1.out.lt
                refine wpListIn_append_own _ rfl (.tmp 45) (.tmp 51) 34 rfl W0.heap.size 22 i0 (.slice none 0 0) 1 24 Tryd.underlying34 hi hz0 hz1 hz2 rfl (by decide) v VS.length VS rfl HOV1.out ⟨X.heap.size, 0, none⟩ 1 1 [Value.slice (some sa) sl sc] rfl rfl HNEW1.out H2.out H3.out.1 H3.out.2 H5.out ?_
                intro v' w5 how5 hgw5 _
                have HO5 := Lib.hid how5
                have HG5 := Lib.hid hgw5
                have a5 : Row w5 (w1.heap.size + 1) 34 #[v] := ((hgw5.block (w1.heap.size + 1) HRQ1.out.lt (fun e => by have := (hlw _ e.symm).1; omega)).trans HRQ1.out)
                have b5 : Row w5 (w3.heap.size + 1) 3 #[.int .i64 (f : Int)] := ((hgw5.block (w3.heap.size + 1) HRF1.out.lt (fun e => by have := (hlw _ e.symm).1; omega)).trans HRF1.out)
                have HA5 := Lib.hid a5
                have HB5 := Lib.hid b5
                have c4 := a5.cell 0
                have f4 := a5.frozen 0
                have c5 := b5.cell 0
                have f5 := b5.frozen 0
                simp only [List.getElem?_toArray, List.getElem?_cons_zero] at c4 c5
                obtain ⟨g2, cap2, rfl, hg2, hg3⟩ := how5.form (by omega)
                have hne1 : ¬ w3.heap.size = w1.heap.size := by omega
                have hne2 : ¬ w1.heap.size = w3.heap.size := by omega
                clear how5 hgw5 a5 b5
                gi_wp2
                have hZ : Hid (∀ (j : Nat) (obj : Obj), W.heap[j]? = some obj → v.ownBlock ≠ some j → j ≠ w1.heap.size + 1 → j ≠ w3.heap.size + 1 → ((w5.setCell ⟨w1.heap.size + 1, 0, none⟩ (.slice (some ⟨g2, 0, none⟩) (VS.length + 1) cap2)).setCell ⟨w3.heap.size + 1, 0, none⟩ (.int .i64 ((k : Int) + 1))).heap[j]? = some obj) := Lib.hid (fun j obj ho h1 h2 h3 => by
                  have hj : j < W.heap.size := (Array.getElem?_eq_some_iff.1 ho).1
                  rw [Below.heap_setCell _ _ _ j (by dsimp only; exact h3), Below.heap_setCell w5 _ _ j (by dsimp only; exact h2), HG5.out.block j (by have := HBX1.out.size; omega) (fun e => h1 e.symm), HBX1.out.block j hj]
                  exact ho)
                have hs5 := HG5.out.size
                have hsx := HBX1.out.size
                have hlv : ∀ j, v.ownBlock = some j → W0.heap.size ≤ j := fun j hj => (HOV.out.lt j hj).1
                have hg2b : W0.heap.size ≤ g2 := (HO5.out.lt g2 rfl).1
                have hW0W := HLEN.out.2
                have heq : ∀ j, j < W0.heap.size → j ≠ w1.heap.size + 1 → j ≠ w3.heap.size + 1 → ((w5.setCell ⟨w1.heap.size + 1, 0, none⟩ (.slice (some ⟨g2, 0, none⟩) (VS.length + 1) cap2)).setCell ⟨w3.heap.size + 1, 0, none⟩ (.int .i64 ((k : Int) + 1))).heap[j]? = W.heap[j]? := fun j h1 h2 h3 => by
                  have hj : j < W.heap.size := by omega
                  rw [hZ.out j _ (Array.getElem?_eq_getElem hj) (fun e => by have := hlv j e; omega) h2 h3]
                  exact (Array.getElem?_eq_getElem hj).symm
                refine ⟨⟨by simp only [World.size_setCell]; omega, fun j obj _ ho hc => hZ.out j obj ho (fun e => ?_) (fun e => ?_) (fun e => ?_)⟩, ⟨by simp only [World.size_setCell]; omega, ?_, ?_⟩, ?_⟩
                · obtain ⟨cur, hcur⟩ := own_block HOV.out e
                  rw [hcur] at ho
                  cases ho; cases hc
                · subst e
                  rw [show W.heap[w1.heap.size + 1]? = _ from HRQ.out] at ho
                  cases ho; cases hc
                · subst e
                  rw [show W.heap[w3.heap.size + 1]? = _ from HRF.out] at ho
                  cases ho; cases hc
                · exact heq _ (by omega) (by omega) (by omega)
                · exact heq _ (by omega) (by omega) (by omega)
                · refine ⟨fun j h1 h2 h3 => (heq j h1 h2 h3).trans (HEXC.out j h1 h2 h3), by simp only [World.size_setCell]; omega, ?_, .slice (some ⟨g2, 0, none⟩) (VS.length + 1) cap2, VS ++ [Value.slice (some sa) sl sc], k + 1, ?_, ?_, ?_, fun _ => ?_⟩
                  · have hbw5 : Below (w1.heap.size + 1) W w5 := (HBX1.out.mono (by omega)).grown HG5.out (by omega) (fun j e => by have := hlv j e; omega)
                    exact ((HBQ.out.trans hbw5).setCell (by dsimp only; omega) _).setCell (by dsimp only; omega) _
                  · exact (HA5.out.set 0 _).other (by omega) _
                  · have e1 : ((k + 1 : Nat) : Int) = (k : Int) + 1 := by omega
                    rw [e1]
                    exact ((HB5.out.other (by omega) _)).set 0 _
                  · rw [List.length_append, List.length_singleton]
                    refine ⟨HO5.out.1, ?_⟩
                    rcases HO5.out.2 with ⟨h0, _⟩ | ⟨g', cap', cur, q1, q2, q3, q4⟩
                    · cases h0
                    · have hgg : g' = g2 := by
                        injection q1 with x1 _ _
                        injection x1 with x1
                        injection x1 with x1 _ _
                        exact x1.symm
                      subst hgg
                      exact .inr ⟨g', cap', cur, q1, q2, ((Below.heap_setCell _ _ _ _ (by dsimp only; omega)).trans (Below.heap_setCell w5 _ _ _ (by dsimp only; omega))).trans q3, q4⟩
                  · rw [List.length_append, List.length_singleton, HLEN.out.1, HYY.out.1, HYY.out.2]
                    exact ⟨rfl, HPA.out.snoc HSVT.out HS1.out, HSM.out.snoc _ _ _⟩
        · have hzz : decide (z < 0) = false := by simpa using hzn
          have HSE : Hid (sep L S k = false) := Lib.hid (by rw [hsep]; simp [hzn])
          clear hsep
          gi_wp2
          refine wpIn_region_shapeG (by kernel_rfl) (by kernel_rfl) (fun i => [Value.int .i64 0, .bool true, .bool true, .slice (some ⟨g, 0, none⟩) n cap, .int .i64 (k : Int), .pointer (some ⟨g, k, none⟩), .int .i64 z, .bool false, .bool false, .bool false, undef, undef, undef, undef, undef, undef, .bool false].getD i undef) { tmps := #[.slice (some ⟨q, o, none⟩) n c0, .string xs, .pointer (some ⟨w.heap.size, 0, none⟩), .pointer (some ⟨w.heap.size + 1, 0, none⟩), .slice none 0 0, .int .i64 0, .pointer (some ⟨w1.heap.size, 0, none⟩), .nilIface, .pointer (some ⟨w1.heap.size + 1, 0, none⟩), .pointer (some ⟨w3.heap.size, 0, none⟩), .pointer (some ⟨w3.heap.size + 1, 0, none⟩), .int .i64 (k : Int), .int .i64 0, .tuple #[.slice (some ⟨g, 0, none⟩) n cap, .nilIface], .slice (some ⟨q, o, none⟩) n c0, .tuple #[.slice (some ⟨g, 0, none⟩) n cap, .nilIface], .slice (some ⟨g, 0, none⟩) n cap, .nilIface, .nilIface, .bool false, undef, undef, .slice (some ⟨q, o, none⟩) n c0, .slice (some ⟨R, 0, none⟩) n n, .slice (some ⟨g, 0, none⟩) n cap, .func (.func 43) #[] #[.pointer (some ⟨w3.heap.size + 1 + 1, 0, none⟩)], .int .i64 (k : Int), .int .i64 0, .int .i64 0, .bool true, .bool true, .slice (some ⟨g, 0, none⟩) n cap, .int .i64 (k : Int), .pointer (some ⟨g, k, none⟩), .int .i64 z, .bool false, .bool false, .bool false, undef, undef, undef, undef, undef, undef, .bool false, undef, undef, undef, undef, undef, undef, undef, undef, undef, undef, undef, undef, undef, undef, undef, undef], defers := [] } ?_ (fun _ X => Below W.heap.size W X) (Below.refl W.heap.size W).drew ?_ ?_
          · kernel_rfl
          · intro i o listed a' w' ho hsz hu haf hS hJ
            have hi : i < 17 := (Array.getElem?_eq_some_iff.1 ho).1
            obtain rfl | rfl | rfl | rfl | rfl | rfl | rfl | rfl | rfl | rfl | rfl | rfl | rfl | rfl | rfl | rfl | rfl : i = 0 ∨ i = 1 ∨ i = 2 ∨ i = 3 ∨ i = 4 ∨ i = 5 ∨ i = 6 ∨ i = 7 ∨ i = 8 ∨ i = 9 ∨ i = 10 ∨ i = 11 ∨ i = 12 ∨ i = 13 ∨ i = 14 ∨ i = 15 ∨ i = 16 := by omega
            · cases ho
              refine opG_plain rfl rfl ?_
              have q12 : a'.tmps[12]? = some (.int .i64 0) := (hS.tmpBase 12 (by kernel_rfl)).trans rfl
              refine op_val (.int .i64 0) w' (fun _ _ => trivial) ?_ ⟨rfl, hJ⟩
              rw [Oper.semAt_plain _ _ _ (by intro c h; cases h)]
              simp [execOp, q12, go_sem]
            · cases ho
              refine opG_plain rfl rfl ?_
              have q28 : a'.tmps[28]? = some (.int .i64 0) := hS.tmpSet 0 _ 28 rfl rfl (by simp) (haf ⟨0, .data⟩ (Array.mem_of_getElem? (i := 0) rfl) rfl)
              refine op_val (.bool true) w' (fun _ _ => trivial) ?_ ⟨rfl, hJ⟩
              rw [Oper.semAt_plain _ _ _ (by intro c h; cases h)]
              simp [execOp, q28, go_sem]
            · cases ho
              refine opG_plain rfl rfl ?_
              have q29 : a'.tmps[29]? = some (.bool true) := hS.tmpSet 1 _ 29 rfl rfl (by simp) (haf ⟨1, .data⟩ (Array.mem_of_getElem? (i := 0) rfl) rfl)
              refine op_val (.bool true) w' (fun _ _ => trivial) ?_ ⟨rfl, hJ⟩
              rw [Oper.semAt_plain _ _ _ (by intro c h; cases h)]
              simp [execOp, q29, go_sem]
            · cases ho
              have qg : a'.tmps[30]? = some (.bool true) := hS.tmpSet 2 _ 30 rfl rfl (by simp) (haf ⟨2, .guard⟩ (Array.mem_of_getElem? (i := 0) rfl) rfl)
              refine opG_want rfl rfl rfl rfl qg ?_
              have q6 : a'.tmps[6]? = some (.pointer (some ⟨w1.heap.size, 0, none⟩)) := (hS.tmpBase 6 (by kernel_rfl)).trans rfl
              have c6 := (HC.out _ hJ).1
              refine op_val (.slice (some ⟨g, 0, none⟩) n cap) w' (fun _ _ => trivial) ?_ ⟨rfl, hJ⟩
              rw [Oper.semAt_plain _ _ _ (by intro c h; cases h)]
              simp [execOp, q6, c6, go_sem]
            · cases ho
              have qg : a'.tmps[30]? = some (.bool true) := hS.tmpSet 2 _ 30 rfl rfl (by simp) (haf ⟨2, .guard⟩ (Array.mem_of_getElem? (i := 0) rfl) rfl)
              refine opG_want rfl rfl rfl rfl qg ?_
              have q11 : a'.tmps[11]? = some (.int .i64 (k : Int)) := (hS.tmpBase 11 (by kernel_rfl)).trans rfl
              refine op_val (.int .i64 (k : Int)) w' (fun _ _ => trivial) ?_ ⟨rfl, hJ⟩
              rw [Oper.semAt_plain _ _ _ (by intro c h; cases h)]
              simp [execOp, q11, go_sem]
            · cases ho
              have qg : a'.tmps[30]? = some (.bool true) := hS.tmpSet 2 _ 30 rfl rfl (by simp) (haf ⟨2, .guard⟩ (Array.mem_of_getElem? (i := 2) rfl) rfl)
              refine opG_want rfl rfl rfl rfl qg ?_
              have q31 : a'.tmps[31]? = some (.slice (some ⟨g, 0, none⟩) n cap) := hS.tmpSet 3 _ 31 rfl rfl (by simp) (haf ⟨3, .data⟩ (Array.mem_of_getElem? (i := 0) rfl) rfl)
              have q32 : a'.tmps[32]? = some (.int .i64 (k : Int)) := hS.tmpSet 4 _ 32 rfl rfl (by simp) (haf ⟨4, .data⟩ (Array.mem_of_getElem? (i := 1) rfl) rfl)
              skip
              refine op_val (.pointer (some ⟨g, k, none⟩)) w' (fun _ _ => trivial) ?_ ⟨rfl, hJ⟩
              rw [Oper.semAt_plain _ _ _ (by intro c h; cases h)]
              simp [execOp, q31, q32, hlt, go_sem]
            · cases ho
              have qg : a'.tmps[30]? = some (.bool true) := hS.tmpSet 2 _ 30 rfl rfl (by simp) (haf ⟨2, .guard⟩ (Array.mem_of_getElem? (i := 1) rfl) rfl)
              refine opG_want rfl rfl rfl rfl qg ?_
              have q33 : a'.tmps[33]? = some (.pointer (some ⟨g, k, none⟩)) := hS.tmpSet 5 _ 33 rfl rfl (by simp) (haf ⟨5, .data⟩ (Array.mem_of_getElem? (i := 0) rfl) rfl)
              have cg := (HC.out _ hJ).2.1
              refine op_val (.int .i64 z) w' (fun _ _ => trivial) ?_ ⟨rfl, hJ⟩
              rw [Oper.semAt_plain _ _ _ (by intro c h; cases h)]
              simp [execOp, q33, cg, go_sem]
            · cases ho
              have qg : a'.tmps[30]? = some (.bool true) := hS.tmpSet 2 _ 30 rfl rfl (by simp) (haf ⟨2, .guard⟩ (Array.mem_of_getElem? (i := 1) rfl) rfl)
              refine opG_want rfl rfl rfl rfl qg ?_
              have q34 : a'.tmps[34]? = some (.int .i64 z) := hS.tmpSet 6 _ 34 rfl rfl (by simp) (haf ⟨6, .data⟩ (Array.mem_of_getElem? (i := 0) rfl) rfl)
              refine op_val (.bool false) w' (fun _ _ => trivial) ?_ ⟨rfl, hJ⟩
              rw [Oper.semAt_plain _ _ _ (by intro c h; cases h)]
              simp [execOp, q34, hzz, go_sem]
            · cases ho
              refine opG_plain rfl rfl ?_
              have q30 : a'.tmps[30]? = some (.bool true) := hS.tmpSet 2 _ 30 rfl rfl (by simp) (haf ⟨2, .data⟩ (Array.mem_of_getElem? (i := 0) rfl) rfl)
              have q35 : a'.tmps[35]? = some (.bool false) := hS.tmpSet 7 _ 35 rfl rfl (by simp) (haf ⟨7, .data⟩ (Array.mem_of_getElem? (i := 1) rfl) rfl)
              refine op_val (.bool false) w' (fun _ _ => trivial) ?_ ⟨rfl, hJ⟩
              rw [Oper.semAt_plain _ _ _ (by intro c h; cases h)]
              simp [execOp, q30, q35, go_sem]
            · cases ho
              refine opG_plain rfl rfl ?_
              have q36 : a'.tmps[36]? = some (.bool false) := hS.tmpSet 8 _ 36 rfl rfl (by simp) (haf ⟨8, .data⟩ (Array.mem_of_getElem? (i := 0) rfl) rfl)
              refine op_val (.bool false) w' (fun _ _ => trivial) ?_ ⟨rfl, hJ⟩
              rw [Oper.semAt_plain _ _ _ (by intro c h; cases h)]
              simp [execOp, q36, go_sem]
            · cases ho
              have qg : a'.tmps[37]? = some (.bool false) := hS.tmpSet 9 _ 37 rfl rfl (by simp) (haf ⟨9, .guard⟩ (Array.mem_of_getElem? (i := 0) rfl) rfl)
              exact opG_out rfl rfl rfl rfl qg (fun _ _ => trivial) ⟨rfl, hJ⟩
            · cases ho
              have qg : a'.tmps[37]? = some (.bool false) := hS.tmpSet 9 _ 37 rfl rfl (by simp) (haf ⟨9, .guard⟩ (Array.mem_of_getElem? (i := 0) rfl) rfl)
              exact opG_out rfl rfl rfl rfl qg (fun _ _ => trivial) ⟨rfl, hJ⟩
            · cases ho
              have qg : a'.tmps[37]? = some (.bool false) := hS.tmpSet 9 _ 37 rfl rfl (by simp) (haf ⟨9, .guard⟩ (Array.mem_of_getElem? (i := 2) rfl) rfl)
              exact opG_out rfl rfl rfl rfl qg (fun _ _ => trivial) ⟨rfl, hJ⟩
            · cases ho
              have qg : a'.tmps[37]? = some (.bool false) := hS.tmpSet 9 _ 37 rfl rfl (by simp) (haf ⟨9, .guard⟩ (Array.mem_of_getElem? (i := 1) rfl) rfl)
              exact opG_out rfl rfl rfl rfl qg (fun _ _ => trivial) ⟨rfl, hJ⟩
            · cases ho
              have qg : a'.tmps[37]? = some (.bool false) := hS.tmpSet 9 _ 37 rfl rfl (by simp) (haf ⟨9, .guard⟩ (Array.mem_of_getElem? (i := 0) rfl) rfl)
              exact opG_out rfl rfl rfl rfl qg (fun _ _ => trivial) ⟨rfl, hJ⟩
            · cases ho
              have qg : a'.tmps[37]? = some (.bool false) := hS.tmpSet 9 _ 37 rfl rfl (by simp) (haf ⟨9, .guard⟩ (Array.mem_of_getElem? (i := 3) rfl) rfl)
              exact opG_out rfl rfl rfl rfl qg (fun _ _ => trivial) ⟨rfl, hJ⟩
            · cases ho
              refine opG_plain rfl rfl ?_
              have q37 : a'.tmps[37]? = some (.bool false) := hS.tmpSet 9 _ 37 rfl rfl (by simp) (haf ⟨9, .data⟩ (Array.mem_of_getElem? (i := 0) rfl) rfl)
              have q43 : a'.tmps[43]? = some (undef) := hS.tmpSet 15 _ 43 rfl rfl (by simp) (haf ⟨15, .data⟩ (Array.mem_of_getElem? (i := 1) rfl) rfl)
              refine op_val (.bool false) w' (fun _ _ => trivial) ?_ ⟨rfl, hJ⟩
              rw [Oper.semAt_plain _ _ _ (by intro c h; cases h)]
              simp [execOp, q37, q43, go_sem]
          · intro listed X hl2 hJ
            have HB := Lib.hid hJ
            clear hJ hl2
            gi_wp2
            exact HNO.out HSE.out X HB.out
      · have hd1 : ((dk : Int) == 0) = false := by simp; exact hd0
        have HSE : Hid (sep L S k = false) := Lib.hid (by rw [hsep]; simp [hd0])
        clear hsep
        gi_wp2
        refine wpIn_region_shapeG (by kernel_rfl) (by kernel_rfl) (fun i => [Value.int .i64 (dk : Int), .bool false, .bool false, undef, undef, undef, undef, undef, .bool false, .bool false, undef, undef, undef, undef, undef, undef, .bool false].getD i undef) { tmps := #[.slice (some ⟨q, o, none⟩) n c0, .string xs, .pointer (some ⟨w.heap.size, 0, none⟩), .pointer (some ⟨w.heap.size + 1, 0, none⟩), .slice none 0 0, .int .i64 0, .pointer (some ⟨w1.heap.size, 0, none⟩), .nilIface, .pointer (some ⟨w1.heap.size + 1, 0, none⟩), .pointer (some ⟨w3.heap.size, 0, none⟩), .pointer (some ⟨w3.heap.size + 1, 0, none⟩), .int .i64 (k : Int), .int .i64 (dk : Int), .tuple #[.slice (some ⟨g, 0, none⟩) n cap, .nilIface], .slice (some ⟨q, o, none⟩) n c0, .tuple #[.slice (some ⟨g, 0, none⟩) n cap, .nilIface], .slice (some ⟨g, 0, none⟩) n cap, .nilIface, .nilIface, .bool false, undef, undef, .slice (some ⟨q, o, none⟩) n c0, .slice (some ⟨R, 0, none⟩) n n, .slice (some ⟨g, 0, none⟩) n cap, .func (.func 43) #[] #[.pointer (some ⟨w3.heap.size + 1 + 1, 0, none⟩)], .int .i64 (k : Int), .int .i64 (dk : Int), .int .i64 (dk : Int), .bool false, .bool false, undef, undef, undef, undef, undef, .bool false, .bool false, undef, undef, undef, undef, undef, undef, .bool false, undef, undef, undef, undef, undef, undef, undef, undef, undef, undef, undef, undef, undef, undef, undef, undef], defers := [] } ?_ (fun _ X => Below W.heap.size W X) (Below.refl W.heap.size W).drew ?_ ?_
        · kernel_rfl
        · intro i o listed a' w' ho hsz hu haf hS hJ
          have hi : i < 17 := (Array.getElem?_eq_some_iff.1 ho).1
          obtain rfl | rfl | rfl | rfl | rfl | rfl | rfl | rfl | rfl | rfl | rfl | rfl | rfl | rfl | rfl | rfl | rfl : i = 0 ∨ i = 1 ∨ i = 2 ∨ i = 3 ∨ i = 4 ∨ i = 5 ∨ i = 6 ∨ i = 7 ∨ i = 8 ∨ i = 9 ∨ i = 10 ∨ i = 11 ∨ i = 12 ∨ i = 13 ∨ i = 14 ∨ i = 15 ∨ i = 16 := by omega
          · cases ho
            refine opG_plain rfl rfl ?_
            have q12 : a'.tmps[12]? = some (.int .i64 (dk : Int)) := (hS.tmpBase 12 (by kernel_rfl)).trans rfl
            refine op_val (.int .i64 (dk : Int)) w' (fun _ _ => trivial) ?_ ⟨rfl, hJ⟩
            rw [Oper.semAt_plain _ _ _ (by intro c h; cases h)]
            simp [execOp, q12, go_sem]
          · cases ho
            refine opG_plain rfl rfl ?_
            have q28 : a'.tmps[28]? = some (.int .i64 (dk : Int)) := hS.tmpSet 0 _ 28 rfl rfl (by simp) (haf ⟨0, .data⟩ (Array.mem_of_getElem? (i := 0) rfl) rfl)
            refine op_val (.bool false) w' (fun _ _ => trivial) ?_ ⟨rfl, hJ⟩
            rw [Oper.semAt_plain _ _ _ (by intro c h; cases h)]
            simp [execOp, q28, hd1, go_sem]
          · cases ho
            refine opG_plain rfl rfl ?_
            have q29 : a'.tmps[29]? = some (.bool false) := hS.tmpSet 1 _ 29 rfl rfl (by simp) (haf ⟨1, .data⟩ (Array.mem_of_getElem? (i := 0) rfl) rfl)
            refine op_val (.bool false) w' (fun _ _ => trivial) ?_ ⟨rfl, hJ⟩
            rw [Oper.semAt_plain _ _ _ (by intro c h; cases h)]
            simp [execOp, q29, go_sem]
          · cases ho
            have qg : a'.tmps[30]? = some (.bool false) := hS.tmpSet 2 _ 30 rfl rfl (by simp) (haf ⟨2, .guard⟩ (Array.mem_of_getElem? (i := 0) rfl) rfl)
            exact opG_out rfl rfl rfl rfl qg (fun _ _ => trivial) ⟨rfl, hJ⟩
          · cases ho
            have qg : a'.tmps[30]? = some (.bool false) := hS.tmpSet 2 _ 30 rfl rfl (by simp) (haf ⟨2, .guard⟩ (Array.mem_of_getElem? (i := 0) rfl) rfl)
            exact opG_out rfl rfl rfl rfl qg (fun _ _ => trivial) ⟨rfl, hJ⟩
          · cases ho
            have qg : a'.tmps[30]? = some (.bool false) := hS.tmpSet 2 _ 30 rfl rfl (by simp) (haf ⟨2, .guard⟩ (Array.mem_of_getElem? (i := 2) rfl) rfl)
            exact opG_out rfl rfl rfl rfl qg (fun _ _ => trivial) ⟨rfl, hJ⟩
          · cases ho
            have qg : a'.tmps[30]? = some (.bool false) := hS.tmpSet 2 _ 30 rfl rfl (by simp) (haf ⟨2, .guard⟩ (Array.mem_of_getElem? (i := 1) rfl) rfl)
            exact opG_out rfl rfl rfl rfl qg (fun _ _ => trivial) ⟨rfl, hJ⟩
          · cases ho
            have qg : a'.tmps[30]? = some (.bool false) := hS.tmpSet 2 _ 30 rfl rfl (by simp) (haf ⟨2, .guard⟩ (Array.mem_of_getElem? (i := 1) rfl) rfl)
            exact opG_out rfl rfl rfl rfl qg (fun _ _ => trivial) ⟨rfl, hJ⟩
          · cases ho
            refine opG_plain rfl rfl ?_
            have q30 : a'.tmps[30]? = some (.bool false) := hS.tmpSet 2 _ 30 rfl rfl (by simp) (haf ⟨2, .data⟩ (Array.mem_of_getElem? (i := 0) rfl) rfl)
            have q35 : a'.tmps[35]? = some (undef) := hS.tmpSet 7 _ 35 rfl rfl (by simp) (haf ⟨7, .data⟩ (Array.mem_of_getElem? (i := 1) rfl) rfl)
            refine op_val (.bool false) w' (fun _ _ => trivial) ?_ ⟨rfl, hJ⟩
            rw [Oper.semAt_plain _ _ _ (by intro c h; cases h)]
            simp [execOp, q30, q35, go_sem]
          · cases ho
            refine opG_plain rfl rfl ?_
            have q36 : a'.tmps[36]? = some (.bool false) := hS.tmpSet 8 _ 36 rfl rfl (by simp) (haf ⟨8, .data⟩ (Array.mem_of_getElem? (i := 0) rfl) rfl)
            refine op_val (.bool false) w' (fun _ _ => trivial) ?_ ⟨rfl, hJ⟩
            rw [Oper.semAt_plain _ _ _ (by intro c h; cases h)]
            simp [execOp, q36, go_sem]
          · cases ho
            have qg : a'.tmps[37]? = some (.bool false) := hS.tmpSet 9 _ 37 rfl rfl (by simp) (haf ⟨9, .guard⟩ (Array.mem_of_getElem? (i := 0) rfl) rfl)
            exact opG_out rfl rfl rfl rfl qg (fun _ _ => trivial) ⟨rfl, hJ⟩
          · cases ho
            have qg : a'.tmps[37]? = some (.bool false) := hS.tmpSet 9 _ 37 rfl rfl (by simp) (haf ⟨9, .guard⟩ (Array.mem_of_getElem? (i := 0) rfl) rfl)
            exact opG_out rfl rfl rfl rfl qg (fun _ _ => trivial) ⟨rfl, hJ⟩
          · cases ho
            have qg : a'.tmps[37]? = some (.bool false) := hS.tmpSet 9 _ 37 rfl rfl (by simp) (haf ⟨9, .guard⟩ (Array.mem_of_getElem? (i := 2) rfl) rfl)
            exact opG_out rfl rfl rfl rfl qg (fun _ _ => trivial) ⟨rfl, hJ⟩
          · cases ho
            have qg : a'.tmps[37]? = some (.bool false) := hS.tmpSet 9 _ 37 rfl rfl (by simp) (haf ⟨9, .guard⟩ (Array.mem_of_getElem? (i := 1) rfl) rfl)
            exact opG_out rfl rfl rfl rfl qg (fun _ _ => trivial) ⟨rfl, hJ⟩
          · cases ho
            have qg : a'.tmps[37]? = some (.bool false) := hS.tmpSet 9 _ 37 rfl rfl (by simp) (haf ⟨9, .guard⟩ (Array.mem_of_getElem? (i := 0) rfl) rfl)
            exact opG_out rfl rfl rfl rfl qg (fun _ _ => trivial) ⟨rfl, hJ⟩
          · cases ho
            have qg : a'.tmps[37]? = some (.bool false) := hS.tmpSet 9 _ 37 rfl rfl (by simp) (haf ⟨9, .guard⟩ (Array.mem_of_getElem? (i := 3) rfl) rfl)
            exact opG_out rfl rfl rfl rfl qg (fun _ _ => trivial) ⟨rfl, hJ⟩
          · cases ho
            refine opG_plain rfl rfl ?_
            have q37 : a'.tmps[37]? = some (.bool false) := hS.tmpSet 9 _ 37 rfl rfl (by simp) (haf ⟨9, .data⟩ (Array.mem_of_getElem? (i := 0) rfl) rfl)
            have q43 : a'.tmps[43]? = some (undef) := hS.tmpSet 15 _ 43 rfl rfl (by simp) (haf ⟨15, .data⟩ (Array.mem_of_getElem? (i := 1) rfl) rfl)
            refine op_val (.bool false) w' (fun _ _ => trivial) ?_ ⟨rfl, hJ⟩
            rw [Oper.semAt_plain _ _ _ (by intro c h; cases h)]
            simp [execOp, q37, q43, go_sem]
        · intro listed X hl2 hJ
          have HB := Lib.hid hJ
          clear hJ hl2
          gi_wp2
          exact HNO.out HSE.out X HB.out
    case done =>
      rintro D ys X hD hys ⟨hexc, hsW, hbq, v, VS, f, rq, rf, hov, hfp⟩ hKD
      obtain ⟨hin, hlen⟩ := inOrder_of hys
      obtain ⟨hf, hPA, hSM⟩ := hfp hin
      rw [hlen] at hf hPA
      have hfk : f ≤ n := by rw [hf]; exact splK_le L S n
      have hvl : VS.length ≤ n := by rw [hPA.len]; exact splK_len L S n
      obtain ⟨sa, sl, sc, hSV⟩ := sliced_some ⟨R, 0, none⟩ f n n 3
      have hsvt : TL W0 (.slice (some sa) sl sc) (cutL L f n) := by rw [hSV]; exact slicedTL HTR.out HN.out hfk (Nat.le_refl _) (Nat.le_refl _)
      have HSV : Hid (∀ W : World, (Instr.slice 22 (.slice (some ⟨R, 0, none⟩) n n) (some (.int .i64 (f : Int))) none none).run Tryd.prog W = .ok (.slice (some sa) sl sc) W) := Lib.hid (by rw [hSV]; exact HRUN2.out f hfk)
      have HSM : Hid (SomeS (VS ++ [Value.slice (some sa) sl sc])) := Lib.hid (hSM.snoc _ _ _)
      have HANS : Hid (PartsAt W0 (VS ++ [Value.slice (some sa) sl sc]) (splitA L S)) := Lib.hid (by
        unfold splitA
        rw [if_pos HE.out, HN.out, ← hf]
        exact hPA.snoc hsvt rfl)
      obtain ⟨XD, hXD⟩ : ∃ XD, XD = X.drew := ⟨_, rfl⟩
      have hXz : XD.heap.size = X.heap.size := by rw [hXD]; rfl
      have rqX : Row XD (w1.heap.size + 1) 34 #[v] := by rw [hXD]; exact rq.drew
      have rfX : Row XD (w3.heap.size + 1) 3 #[.int .i64 (f : Int)] := by rw [hXD]; exact rf.drew
      have rrX : Row XD w3.heap.size 22 #[.slice (some ⟨R, 0, none⟩) n n] := by rw [hXD]; exact Row.drew ((hexc _ (by omega) (by omega) (by omega)).trans HROWS.out.1)
      have hovX : XD.ownsRow W0.heap.size 22 1 v VS.length VS := by rw [hXD]; exact hov.drew
      have hbXD : Below X.heap.size X XD := by rw [hXD]; exact (Below.refl _ _).drew
      obtain ⟨X1, hX1⟩ : ∃ X1, X1 = XD.alloc (.cells #[.slice (some sa) sl sc] 22) := ⟨_, rfl⟩
      have hX1z : X1.heap.size = X.heap.size + 1 := by rw [hX1, World.size_alloc, hXz]
      have hbX1 : Below X.heap.size X X1 := by rw [hX1]; exact hbXD.alloc (by rw [hXz]; exact Nat.le_refl _) _
      have rq1 : Row X1 (w1.heap.size + 1) 34 #[v] := by rw [hX1]; exact rqX.alloc _
      have rf1 : Row X1 (w3.heap.size + 1) 3 #[.int .i64 (f : Int)] := by rw [hX1]; exact rfX.alloc _
      have rr1 : Row X1 w3.heap.size 22 #[.slice (some ⟨R, 0, none⟩) n n] := by rw [hX1]; exact rrX.alloc _
      have hov1 : X1.ownsRow W0.heap.size 22 1 v VS.length VS := by rw [hX1]; exact hovX.alloc _
      have hnew1 : ∀ (j : Nat) (u : Value), [Value.slice (some sa) sl sc][j]? = some u → X1.cell? ((⟨X.heap.size, 0, none⟩ : Addr).add j) = some u := by
        rw [hX1, ← hXz]
        exact World.news_of_block (World.alloc_heap_new XD (.cells #[.slice (some sa) sl sc] 22))
      obtain ⟨WD, hWD⟩ : ∃ WD : Bool → World, WD = fun b => if b then X1 else XD := ⟨_, rfl⟩
      have HW0 : Hid (WD false = XD) := Lib.hid (by rw [hWD]; rfl)
      have HW1 : Hid (WD true = XD.alloc (.cells #[.slice (some sa) sl sc] 22)) := Lib.hid (by rw [hWD, ← hX1]; rfl)
      have HW2 : Hid (WD true = X1) := Lib.hid (by rw [hWD]; rfl)
      have HC : Hid (∀ b, (WD b).cell? ⟨w1.heap.size + 1, 0, none⟩ = some v ∧ (WD b).cell? ⟨w3.heap.size, 0, none⟩ = some (.slice (some ⟨R, 0, none⟩) n n) ∧ (WD b).cell? ⟨w3.heap.size + 1, 0, none⟩ = some (.int .i64 (f : Int))) := Lib.hid (fun b => by
        cases b
        · rw [HW0.out]; exact ⟨rqX.cell 0, rrX.cell 0, rfX.cell 0⟩
        · rw [HW2.out]; exact ⟨rq1.cell 0, rr1.cell 0, rf1.cell 0⟩)
      have HOV := Lib.hid hov
      have HOV1 := Lib.hid hov1
      have HBX1 := Lib.hid hbX1
      have HNEW1 := Lib.hid hnew1
      have HXZ := Lib.hid hXz
      have HKD := Lib.hid hKD
      have HEXC := Lib.hid hexc
      have HBQ := Lib.hid hbq
      have H3 : Hid (VS.length + 1 ≤ maxLen ∧ (VS.length + 1) * 24 ≤ 140737488355328) := Lib.hid ⟨by unfold maxLen; omega, by omega⟩
      have H2 : Hid (∀ u ∈ [Value.slice (some sa) sl sc], u.oneCell' = true) := Lib.hid (by intro u hu; simp at hu; subst hu; rfl)
      have H5 : Hid (W0.heap.size ≤ X1.heap.size) := Lib.hid (by omega)
      have HWZ : Hid (WD false = X.drew) := Lib.hid (by rw [HW0.out, hXD])
      have HX1Z := Lib.hid hX1z
      have HSW := Lib.hid hsW
      clear hSV hsvt hSM hPA hf hfp hexc hbq hov rq rf hWD hX1 hXD hXz rqX rfX rrX hovX hbXD rq1 rf1 rr1 hov1 hbX1 hnew1 hX1z hKD hys hlen hin
      refine hK _ _ ?_
      gi_wp2
      refine Ear.wpIn_region_earlyW (by kernel_rfl) (by kernel_rfl) 5 (by decide) (by kernel_rfl) (by kernel_rfl) (by kernel_rfl) (fun i => [v, .slice (some ⟨R, 0, none⟩) n n, .int .i64 (f : Int), .slice (some sa) sl sc, .slice (some ⟨X.heap.size, 0, none⟩) 1 1].getD i undef) { tmps := #[.slice a0 n c0, .string xs, .pointer (some ⟨w.heap.size, 0, none⟩), .pointer (some ⟨w.heap.size + 1, 0, none⟩), .slice none 0 0, .int .i64 0, .pointer (some ⟨w1.heap.size, 0, none⟩), .nilIface, .pointer (some ⟨w1.heap.size + 1, 0, none⟩), .pointer (some ⟨w3.heap.size, 0, none⟩), .pointer (some ⟨w3.heap.size + 1, 0, none⟩), undef, undef, .tuple #[.slice (some ⟨g, 0, none⟩) n cap, .nilIface], .slice a0 n c0, .tuple #[.slice (some ⟨g, 0, none⟩) n cap, .nilIface], .slice (some ⟨g, 0, none⟩) n cap, .nilIface, .nilIface, .bool false, undef, undef, .slice a0 n c0, .slice (some ⟨R, 0, none⟩) n n, .slice (some ⟨g, 0, none⟩) n cap, .func (.func 43) #[] #[.pointer (some ⟨w3.heap.size + 1 + 1, 0, none⟩)], undef, undef, undef, undef, undef, undef, undef, undef, undef, undef, undef, undef, undef, undef, undef, undef, undef, undef, undef, undef, undef, undef, undef, undef, undef, undef, undef, undef, undef, v, .slice (some ⟨R, 0, none⟩) n n, .int .i64 (f : Int), .slice (some sa) sl sc, .slice (some ⟨X.heap.size, 0, none⟩) 1 1, undef], defers := [{ target := .collected D, args := #[] }] } (by kernel_rfl) _ rfl (fun l => WD (l.getD 4 false)) HWZ.out ?_ ?_
      · intro i o listed a' him ho hsz hu haf hcl hS
        have hnx : ∀ i, i < 8 → i ≠ 4 → (listed.setIfInBounds i true).getD 4 false = listed.getD 4 false := fun i hi h1 => by
          rw [getD_set _ _ _ _ (by rw [hsz]; exact hi), if_neg h1]
        obtain rfl | rfl | rfl | rfl | rfl : i = 0 ∨ i = 1 ∨ i = 2 ∨ i = 3 ∨ i = 4 := by omega
        · cases ho
          have q8 : a'.tmps[8]? = some (.pointer (some ⟨w1.heap.size + 1, 0, none⟩)) := (hS.tmpBase 8 (by kernel_rfl)).trans rfl
          refine ⟨by simp [Oper.about], _, ?_, .inl rfl⟩
          rw [hnx 0 (by omega) (by omega), Oper.semAt_plain _ _ _ (by intro c h; cases h)]
          generalize listed.getD 4 false = bb
          obtain ⟨cq, _, _⟩ := HC.out bb
          simp [execOp, q8, cq, go_sem]
        · cases ho
          have q9 : a'.tmps[9]? = some (.pointer (some ⟨w3.heap.size, 0, none⟩)) := (hS.tmpBase 9 (by kernel_rfl)).trans rfl
          refine ⟨by simp [Oper.about], _, ?_, .inl rfl⟩
          rw [hnx 1 (by omega) (by omega), Oper.semAt_plain _ _ _ (by intro c h; cases h)]
          generalize listed.getD 4 false = bb
          obtain ⟨_, cr, _⟩ := HC.out bb
          simp [execOp, q9, cr, go_sem]
        · cases ho
          have q10 : a'.tmps[10]? = some (.pointer (some ⟨w3.heap.size + 1, 0, none⟩)) := (hS.tmpBase 10 (by kernel_rfl)).trans rfl
          refine ⟨by simp [Oper.about], _, ?_, .inl rfl⟩
          rw [hnx 2 (by omega) (by omega), Oper.semAt_plain _ _ _ (by intro c h; cases h)]
          generalize listed.getD 4 false = bb
          obtain ⟨_, _, cf⟩ := HC.out bb
          simp [execOp, q10, cf, go_sem]
        · cases ho
          have q56 : a'.tmps[56]? = some (.slice (some ⟨R, 0, none⟩) n n) := hS.tmpSet 1 _ 56 rfl rfl (by simp) (haf ⟨1, .data⟩ (Array.mem_of_getElem? (i := 0) rfl) rfl)
          have q57 : a'.tmps[57]? = some (.int .i64 (f : Int)) := hS.tmpSet 2 _ 57 rfl rfl (by simp) (haf ⟨2, .data⟩ (Array.mem_of_getElem? (i := 1) rfl) rfl)
          refine ⟨by simp [Oper.about], _, ?_, .inl rfl⟩
          rw [hnx 3 (by omega) (by omega), Oper.semAt_plain _ _ _ (by intro c h; cases h)]
          simp [execOp, q56, q57, HSV.out, go_sem]
        · cases ho
          have q58 : a'.tmps[58]? = some (.slice (some sa) sl sc) := hS.tmpSet 3 _ 58 rfl rfl (by simp) (haf ⟨3, .data⟩ (Array.mem_of_getElem? (i := 0) rfl) rfl)
          refine ⟨by simp [Oper.about], _, ?_, .inl rfl⟩
          rw [hu, getD_set _ _ _ _ (by rw [hsz]; decide), if_pos rfl, HW0.out, HW1.out, Oper.semAt_plain _ _ _ (by intro c h; cases h)]
          simp [execOp, q58, HXZ.out, go_sem]
      · change wpListIn _ _ _ _ _ _ _ (WD true)
        rw [HW2.out]
        have hlw := HOV1.out.lt
        refine wpListIn_append_own _ rfl (.tmp 55) (.tmp 59) 34 rfl W0.heap.size 22 i0 (.slice none 0 0) 1 24 Tryd.underlying34 hi hz0 hz1 hz2 rfl (by decide) v VS.length VS rfl HOV1.out ⟨X.heap.size, 0, none⟩ 1 1 [Value.slice (some sa) sl sc] rfl rfl HNEW1.out H2.out H3.out.1 H3.out.2 H5.out ?_
        intro v' w5 how5 hgw5 _
        have HO5 := Lib.hid how5
        have HG5 := Lib.hid hgw5
        clear how5 hgw5
        gi_wp2
        have hlv : ∀ j, v.ownBlock = some j → W0.heap.size ≤ j := fun j hj => (HOV.out.lt j hj).1
        have hKX := HKD.out
        have hDX : D < X.heap.size := (Array.getElem?_eq_some_iff.1 hKX).1
        have hs5 := HG5.out.size
        have hsx := HBX1.out.size
        have hX1s := HX1Z.out
        have hW0X := HSW.out
        have hvD : ¬ v.ownBlock = some D := fun e => by
          obtain ⟨cur, hcur⟩ := own_block HOV.out e
          rw [hKX] at hcur
          cases hcur
        have hKD5 : w5.heap[D]? = some (.deferred (some [])) := by
          rw [HG5.out.block D (by omega) (fun e => hvD e.symm), HBX1.out.block D hDX]
          exact hKX
        have b1 : Below (w1.heap.size + 1) W0 w5 := (HBQ.out.trans (HBX1.out.mono (by omega))).grown HG5.out (by omega) (fun j e => by have := hlv j e; omega)
        have he : ∀ j, j < W0.heap.size → j ≠ w1.heap.size + 1 → j ≠ w3.heap.size + 1 → (w5.putObj D (.deferred none)).heap[j]? = W0.heap[j]? := fun j h1 h2 h3 => by
          rw [World.putObj_heap_other (by omega), HG5.out.block j (by omega) (fun e => by have := hlv j e.symm; omega), HBX1.out.block j (by omega)]
          exact HEXC.out j h1 h2 h3
        refine ⟨by simp, .inl ⟨_, _, rfl, run_takeDeferred hKD5, ?_⟩⟩
        refine ⟨.tuple #[v', .int .i64 0], by simp [results, Tryd.f19, go_sem], v', VS ++ [Value.slice (some sa) sl sc], by rw [HE.out]; rfl, ?_, ?_, below_drop (d' := none) (HBW.out.trans (b1.mono (by omega))) (by omega) hKD5, HSM.out⟩
        · rw [List.length_append, List.length_singleton]
          exact own_still (own_mono HO5.out (by omega)) (by decide) (Still.drop (d' := none) hKD5)
        · exact HANS.out.exc HROWS.out.2.2.2.1 HROWS.out.2.1 (by simp [World.putObj]; omega) he
    case stop =>
      rintro D c pre W hD _ hf _
      exact hf.elim
  · have hbw := HA.out.trans (hb1.mono (by have := HRA.out.2.2; omega))
    have hbw2 : Below w.heap.size w (w1.alloc (.cells #[.slice none 0 0] 45)) := hbw.alloc hbw.size _
    have HNF := Lib.hid (HNUM.out (a : Int) _ hbw2)
    have HB := Lib.hid hbw2
    have hd : splitA L S = [] := by unfold splitA; rw [if_neg h0]
    have HD := Lib.hid hd
    clear hd h0 hb1 hbw hbw2 HP HNUM
    gi_wp2
    refine ⟨trivial, ?_⟩
    refine (callsIn_wide.2 HNF.out).mono ?_
    rintro e w2 ⟨rfl, hb2⟩
    have HB2 := Lib.hid (HB.out.trans (hb2.mono HB.out.size))
    clear hb2
    gi_wp2
    refine ⟨.tuple #[.slice none 0 0, .int .i64 ((errA L : Nat) : Int)], ?_, _, [], rfl, World.ownsRow_nil _ _ _ _, by rw [HD.out]; exact PartsAt.nil _, HB2.out, SomeS.nil⟩
    simp [results, Tryd.f19, go_sem]
theorem gsplit_c (w : World) (hG : EG w) (v : Value) (L : List Tk) (S : List UInt8) (hT : TL w v L) (hl : L.length ≤ 1000) (hbt : ∀ t ∈ L, t.text.length ≤ 10000 ∧ t.glyph.length ≤ 10000) :
    Calls Tryd.prog 19 #[v, .string (bs S)] w fun e W' => ∃ v' VS, e = .returned (.tuple #[v', .int .i64 ((errA L : Nat) : Int)]) ∧ W'.ownsRow w.heap.size 22 1 v' VS.length VS ∧ PartsAt W' VS (splitA L S) ∧ Below w.heap.size w W' :=
  (gsplit_m w hG v L S hT hl hbt).mono fun _ _ ⟨v', VS, h1, h2, h3, h4, _⟩ => ⟨v', VS, h1, h2, h3, h4⟩
end Go.Proofs.YthbiflmmlcmncaaDoor.Ti
