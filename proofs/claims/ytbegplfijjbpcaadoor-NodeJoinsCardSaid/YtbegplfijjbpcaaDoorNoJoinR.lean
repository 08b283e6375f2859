/- The plain Join. -/
import Derived.Test.YtbegplfijjbpcaaDoorNoMoved
import Derived.Test.YtbegplfijjbpcaaDoorNqOwns
import Derived.Test.YtbegplfijjbpcaaDoorNqTells
namespace Go.Proofs.YtbegplfijjbpcaaDoor.No
open Go Go.RowKit Go.Shelf
attribute [local go_sem] Oper.semAt_some

theorem nodC_one (p : Nd × Value) (hp : p.2.oneCell' = true) : ∀ u ∈ nodC p, u.oneCell' = true := by
  intro u hu
  simp [nodC] at hu
  rcases hu with rfl | rfl | rfl
  · rfl
  · rfl
  · exact hp
theorem own_one {W : World} {b n s : Nat} {e : TypeId} {v : Value} {xs : List Value} (h : W.ownsRow b e s v n xs) : v.oneCell' = true := by
  obtain ⟨a, c, rfl⟩ := own_form h
  rfl
theorem NOwn.one {W : World} {base : Nat} {v : Value} {L : List (Nd × Value)} (h : NOwn W base v L) : ∀ u ∈ cellsN L, u.oneCell' = true := by
  intro u hu
  obtain ⟨p, hp, h1⟩ := List.mem_flatMap.1 hu
  exact nodC_one p (own_one (h.kid p hp)) u h1
theorem NOwn.setbox {W : World} {base h i : Nat} {v z : Value} {L : List (Nd × Value)} {cs : Array Value} (hL : NOwn W base v L) (hr : Row W h 42 cs) (hne : v.ownBlock ≠ some h) : NOwn (W.setCell ⟨h, i, none⟩ z) base v L :=
  ⟨World.ownsRow.kept hL.row (grown_set _ _ _ _) (.inr hne), fun p hp => World.ownsRow.kept (hL.kid p hp) (grown_set _ _ _ _) (.inr (own_off (hL.kid p hp) hr (by decide)))⟩
/-- While it joins: the nodes so far, the root's box, its kids so far. -/
structure JI (W : World) (w0 : World) (kd : Int) (U : ByteArray) (u : Value) (L : List (Nd × Value)) (RL : List Int) : Prop where
  own : NOwn W w0.heap.size u L
  box : ∃ q, Row W w0.heap.size 42 #[.int .i64 kd, .string U, q] ∧ IOwn W w0.heap.size q RL ∧ ∀ p ∈ L, p.2.ownBlock = none ∨ p.2.ownBlock ≠ q.ownBlock
  off : u.ownBlock ≠ some w0.heap.size
  below : Below w0.heap.size w0 W
theorem JI.still {W W' w0 : World} {kd : Int} {U : ByteArray} {u : Value} {L : List (Nd × Value)} {RL : List Int} (h : JI W w0 kd U u L RL) (hb : Below W.heap.size W W') : JI W' w0 kd U u L RL := by
  obtain ⟨q, h1, h2, h3⟩ := h.box
  exact ⟨h.own.below hb, ⟨q, h1.below hb h1.lt, own_kept h2 hb, h3⟩, h.off, h.below.trans (hb.mono h.below.size)⟩
/-- Some nodes are appended. -/
theorem JI.grow {W W' w0 : World} {kd : Int} {U : ByteArray} {u u' u2 : Value} {L M : List (Nd × Value)} {RL : List Int} {B g c n : Nat} (h : JI W w0 kd U u L RL) (hM : NOwn W B u2 M) (hq : ∀ q, Row W w0.heap.size 42 #[.int .i64 kd, .string U, q] → IOwn W w0.heap.size q RL → ∀ k, q.ownBlock = some k → k < B) (hB : w0.heap.size ≤ B)
    (hu : u' = .slice (some ⟨g, 0, none⟩) n c) (hr : W'.ownsRow w0.heap.size 42 3 u' (L.length + M.length) (cellsN L ++ cellsN M)) (hg : W.grownBy W' u.ownBlock) (hat : u.ownBlock = some g ∨ g = W.heap.size) : JI W' w0 kd U u' (L ++ M) RL := by
  obtain ⟨q, h1, h2, h3⟩ := h.box
  have h1l := h1.lt
  refine ⟨h.own.grow hg (by rw [List.length_append, cellsN_app]; exact hr) (fun p hp => own_mono (hM.kid p hp) hB), ⟨q, row_grown h1 hg h.off, World.ownsRow.kept h2 hg (own_apart h2 h.own.row (by decide)), fun p hp => ?_⟩, ?_, below_grown2 h.below h.below.size hg (fun k e => (h.own.row.lt k e).1)⟩
  · rcases List.mem_append.1 hp with hp | hp
    · exact h3 p hp
    · cases hb : p.2.ownBlock with
      | none => exact .inl rfl
      | some k =>
        refine .inr (fun e => ?_)
        have h5 := (World.ownsRow.lt (hM.kid p hp) k hb).1
        have h6 := hq q h1 h2 k e.symm
        omega
  · rw [hu]
    intro e
    have e' : g = w0.heap.size := by simpa [Value.ownBlock] using e
    rcases hat with hat | hat
    · exact h.off (by rw [hat, e'])
    · omega
/-- A number is appended to the root's kids. -/
theorem JI.kid {W W' w0 : World} {kd y : Int} {U : ByteArray} {u q q' : Value} {L : List (Nd × Value)} {RL : List Int} {g c n : Nat} (h : NOwn W w0.heap.size u L) (hoff : u.ownBlock ≠ some w0.heap.size) (hb : Below w0.heap.size w0 W) (h1 : Row W w0.heap.size 42 #[.int .i64 kd, .string U, q]) (h2 : IOwn W w0.heap.size q RL) (h3 : ∀ p ∈ L, p.2.ownBlock = none ∨ p.2.ownBlock ≠ q.ownBlock)
    (hq' : q' = .slice (some ⟨g, 0, none⟩) n c) (hr : IOwn W' w0.heap.size q' (RL ++ [y])) (hg : W.grownBy W' q.ownBlock) (hat : q.ownBlock = some g ∨ g = W.heap.size) :
    Row W' w0.heap.size 42 #[.int .i64 kd, .string U, q] ∧ JI (W'.setCell ⟨w0.heap.size, 2, none⟩ q') w0 kd U u L (RL ++ [y]) := by
  have hr2 : Row W' w0.heap.size 42 #[.int .i64 kd, .string U, q] := row_grown h1 hg (own_off h2 h1 (by decide))
  have hN : NOwn W' w0.heap.size u L := ⟨World.ownsRow.kept h.row hg (own_apart h.row h2 (by decide)), fun p hp => World.ownsRow.kept (h.kid p hp) hg (h3 p hp)⟩
  have hbb := below_grown2 hb hb.size hg (fun k e => (World.ownsRow.lt h2 k e).1)
  refine ⟨hr2, hN.setbox hr2 hoff, ⟨q', hr2.set 2 q', World.ownsRow.kept hr (grown_set _ _ _ _) (.inr (own_off hr hr2 (by decide))), fun p hp => ?_⟩, hoff, hbb.setCell (p := ⟨w0.heap.size, 2, none⟩) (Nat.le_refl _) _⟩
  rw [hq']
  cases hb2 : p.2.ownBlock with
  | none => exact .inl rfl
  | some k =>
    refine .inr (fun e => ?_)
    have e' : k = g := by simpa [Value.ownBlock] using e
    subst e'
    rcases hat with hat | hat
    · rcases h3 p hp with h9 | h9
      · rw [h9] at hb2; cases hb2
      · exact h9 (by rw [hb2, hat])
    · have := (World.ownsRow.lt (h.kid p hp) k hb2).2
      omega

theorem kids_len60 {L : List Nd} (h : ∀ x ∈ L, x.kids.length ≤ 60) : (allKids L).length ≤ L.length * 60 := by
  induction L with
  | nil => exact Nat.le_refl _
  | cons a L ih =>
    have h1 := h a List.mem_cons_self
    have h2 := ih (fun x hx => h x (List.mem_cons_of_mem _ hx))
    unfold allKids at h2 ⊢
    rw [List.flatMap_cons, List.length_append, List.length_cons]
    omega
/-- What the program's call returns, by the plain text: an answer and a list. -/
def TOLD (W' : World) (e : Ending) (A : List Nd × Nat) : Prop := ∃ a c, e = .returned (.tuple #[.slice a A.1.length c, .int .i64 (A.2 : Int)]) ∧ NL W' (.slice a A.1.length c) A.1
theorem TOLD.no {W' : World} {A : List Nd × Nat} (h : A = ([], 70)) : TOLD W' (.returned (.tuple #[.slice none 0 0, .int .i64 70])) A := by
  subst h
  exact ⟨none, 0, rfl, NL.nil _⟩
set_option maxRecDepth 100000 in
set_option maxHeartbeats 4000000 in
/-- Join(kind, text, kids). -/
theorem rjoin_c (w : World) (kd : Int) (X : List UInt8) (v : Value) (KS : List (List Nd)) (hv : LL w v KS) (hX : X.length ≤ 50) (hl : KS.length ≤ 4) (hs : ∀ K ∈ KS, K.length ≤ 60 ∧ ∀ x ∈ K, x.kids.length ≤ 60 ∧ x.text.length ≤ 50) :
    Calls Tryd.prog 24 #[.int .i64 kd, .string (bs X), v] w fun e W' => Below w.heap.size w W' ∧ TOLD W' e (joinA kd X KS) := by
  obtain ⟨i2, hj, hy0, hy1, hy2⟩ := infoN
  obtain ⟨i0, hi, hz0, hz1, hz2⟩ := infoI
  obtain ⟨a0, c0, rfl, hc1, hc2⟩ := hv.form
  unfold maxLen at hc2
  have HCT := Lib.hid hv.cells
  have HS := Lib.hid hs
  have HXL := Lib.hid hX
  have HKL := Lib.hid hl
  obtain ⟨n, hn⟩ : ∃ n, n = KS.length := ⟨_, rfl⟩
  rw [← hn] at hc1 HCT hl ⊢
  have HN := Lib.hid hn
  obtain ⟨U, hU⟩ : ∃ U, U = bs X := ⟨_, rfl⟩
  have HU := Lib.hid hU
  rw [← hU]
  have HJ0 : Hid (JI (w.alloc (.cells #[.int .i64 kd, .string U, .slice none 0 0] 42)) w kd U (.slice none 0 0) [] []) := Lib.hid ⟨NOwn.nil _ _, ⟨_, Row.new _ _ _, IOwn.nil _ _, fun p hp => by cases hp⟩, fun e => (by cases e), (Below.refl _ w).alloc (Nat.le_refl _) _⟩
  clear hv hn hU hs hX
  go_enter Tryd.func24, Tryd.ntmps24
  go_wp2
  go_loopw [9, 10] (fun u i wr => ∃ (k : Nat) (L : List (Nd × Value)) (RL : List Int), k ≤ n ∧ i = .int .i64 k ∧ JI wr w kd U u L RL ∧ jn (KS.drop k) (L.map (·.1)) RL = jn KS [] [] ∧ L.length ≤ 60 * k ∧ RL.length = k ∧ ∀ K ∈ KS.take k, rightB K = true) (fun _ i _ => n - (intOf i).toNat)
  case atStart => exact ⟨0, [], [], Nat.zero_le _, rfl, HJ0.out, rfl, Nat.zero_le _, rfl, fun K hK => by cases hK⟩
  case round =>
    obtain ⟨k, L, RL, hk, rfl, hJ, hjn, hL60, hRk, hall⟩ := hrel
    have HJ := Lib.hid hJ
    have HJN := Lib.hid hjn
    have HALL := Lib.hid hall
    have HB := Lib.hid hJ.below
    have hbs := hJ.below.size
    obtain ⟨ua, uc, rfl⟩ := own_form hJ.own.row
    obtain ⟨m, hm⟩ : ∃ m, m = L.length := ⟨_, rfl⟩
    rw [← hm] at HJ hL60 ⊢
    have HM := Lib.hid hm
    have HRK := Lib.hid hRk
    clear hJ hjn hall hm hRk
    by_cases hlt : k < n
    · obtain ⟨g, o, c1, hv, hg, hcs⟩ := HCT.out (by omega)
      obtain rfl : a0 = some ⟨g, o, none⟩ := by injection hv
      obtain ⟨K, hx⟩ : ∃ x, KS[k]? = some x := ⟨_, List.getElem?_eq_getElem (by rw [← HN.out]; exact hlt)⟩
      have HX := Lib.hid hx
      have hmem := List.mem_of_getElem? hx
      have HSK := Lib.hid (HS.out K hmem)
      have HMEM := Lib.hid hmem
      obtain ⟨q, y0, hq⟩ := hcs k K hx
      obtain ⟨qa, qc, rfl, hq1, hq2⟩ := hq.form
      unfold maxLen at hq2
      obtain ⟨nk, hnk⟩ : ∃ m, m = K.length := ⟨_, rfl⟩
      rw [← hnk] at hq y0 hq1
      have HNK := Lib.hid hnk
      have hnk60 : nk ≤ 60 := by rw [hnk]; exact HSK.out.1
      have HQ := Lib.hid hq
      have HC : Hid (∀ W, Below w.heap.size w W → W.cell? ⟨g, o + k, none⟩ = some (.slice qa nk qc)) := Lib.hid (fun W hW => (hW.cell (p := ⟨g, o + k, none⟩) hg).trans y0)
      have e1 := HC.out _ HB.out
      have HRT : Hid (Calls Tryd.prog 12 #[.slice qa nk qc] wr fun e W' => e = .returned (.bool (rightB K)) ∧ Below wr.heap.size wr W') := Lib.hid (right_c _ K wr (hq.below HB.out) (kids_few HSK.out.1 HSK.out.2))
      clear hv hcs hx hmem y0 hq hnk
      by_cases hR : rightB K = true
      · rw [hR] at HRT
        have HR := Lib.hid ((right_iff K).1 hR)
        have HRB := Lib.hid hR
        clear hR
        go_wp2_with fail
        refine HRT.out.mono ?_
        rintro e w1 ⟨rfl, hb1⟩
        have HJ1 := Lib.hid (HJ.out.still hb1)
        have e2 := HC.out _ HJ1.out.below
        clear hb1 e1
        go_wp2_with fail
        refine (moved_c w1 _ K (m : Int) (HQ.out.below HJ1.out.below) (by have := HSK.out.1; omega) (fun x hx => ⟨by have := (HSK.out.2 x hx).1; omega, fun a ha => by
          obtain ⟨j, hj⟩ := List.mem_iff_getElem?.1 hx
          have h1 := HR.out.kid hj a ha
          have h2 := (List.getElem?_eq_some_iff.1 hj).1
          have h3 := HSK.out.1
          omega⟩) (by omega)).mono ?_
        rintro e w2 ⟨hb2, u2, M, rfl, hN2, hM2⟩
        have hMl : M.length = nk := by
          have := congrArg List.length hM2
          rw [List.length_map, List.length_map, ← HNK.out] at this
          exact this
        have hnk1 : 1 ≤ nk := by rw [HNK.out]; exact HR.out.pos
        have HJ2 := Lib.hid (HJ1.out.still hb2)
        have HN2 := Lib.hid hN2
        have HM2 := Lib.hid hM2
        have hb2s := hb2.size
        have HQB : Hid (∀ q, Row w2 w.heap.size 42 #[.int .i64 kd, .string U, q] → IOwn w2 w.heap.size q RL → ∀ k, q.ownBlock = some k → k < w1.heap.size) := Lib.hid (fun q hr _ k hk => by
          obtain ⟨q1, h1, h2, _⟩ := HJ1.out.box
          have h3 := h1.below hb2 h1.lt
          unfold Row at h3 hr
          rw [h3] at hr
          injection hr with hr
          injection hr with hr
          simp at hr
          subst hr
          exact (World.ownsRow.lt h2 k hk).2)
        obtain ⟨ga, gcap, hgf, _, _⟩ := hN2.row.form (by omega)
        rw [hMl] at hgf
        subst hgf
        have HC2 : Hid (∀ (j : Nat) (z : Value), (cellsN M)[j]? = some z → w2.cell? ((⟨ga, 0, none⟩ : Addr).add j) = some z) := Lib.hid (hN2.row.cells rfl)
        have HML := Lib.hid hMl
        have HCL : Hid ((cellsN M).length = nk * 3) := Lib.hid (by rw [cellsN_len, hMl])
        have HON : Hid (w2.ownsRow w.heap.size 42 3 (.slice ua m uc) m (cellsN L)) := Lib.hid (by
          have := HJ2.out.own.row
          rw [← HM.out] at this
          exact this)
        have H4 : Hid (m + nk ≤ maxLen ∧ (m + nk) * 48 ≤ 140737488355328) := Lib.hid ⟨by unfold maxLen; omega, by omega⟩
        have hb02 : w.heap.size ≤ w2.heap.size := HJ2.out.below.size
        clear hb2 hN2 hM2 hMl e2
        go_wp2_with (at_builtin; refine wpList_append_lies _ rfl (.tmp 26) (.tmp 33) 22 rfl w.heap.size 42 i2 (.agg #[.int .i64 0, .string ⟨#[]⟩, .slice none 0 0]) 3 48 Tryd.underlying22 hj hy0 hy1 hy2 rfl (by decide) (.slice ua m uc) m (cellsN L) rfl HON.out ⟨ga, 0, none⟩ nk gcap (cellsN M) rfl HCL.out HC2.out HN2.out.one hnk1 H4.out.1 H4.out.2 hb02 _ rfl ?_)
        intro g3 cap3 w3 ho3 hg3 hat3 hl3
        have hJ3 : JI w3 w kd U (.slice (some ⟨g3, 0, none⟩) (m + nk) cap3) (L ++ M) RL := HJ2.out.grow HN2.out HQB.out (by have := HJ1.out.below.size; omega) rfl (by rw [← HM.out, HML.out]; exact ho3) hg3 hat3
        obtain ⟨q3, h31, h32, h33⟩ := hJ3.box
        obtain ⟨q3a, q3c, rfl⟩ := own_form h32
        rw [HRK.out] at h31 h33
        have h32' : IOwn w3 w.heap.size (.slice q3a k q3c) RL := by
          have h9 := h32
          rw [HRK.out] at h9
          exact h9
        obtain ⟨z, hz⟩ : ∃ z, z = m + nk := ⟨_, rfl⟩
        rw [← hz] at hJ3 ⊢
        have hzl : 1 ≤ z := by omega
        have hzu : z ≤ 60 * (k + 1) := by omega
        have HZ := Lib.hid hz
        have HJ3 := Lib.hid hJ3
        have H31 := Lib.hid h31
        have H32 := Lib.hid h32'
        have H33 := Lib.hid h33
        obtain ⟨-, -, x2, -, -, -⟩ := node_cells h31
        have hb3s := hJ3.below.size
        have hal : Below w3.heap.size w3 (w3.alloc (.cells #[.int .i64 ((z : Int) - 1)] 3)) := (Below.refl _ _).alloc (Nat.le_refl _) _
        have HAL := Lib.hid hal
        have H1 : Hid (∀ (i : Nat) (u : Value), [Value.int .i64 ((z : Int) - 1)][i]? = some u → (w3.alloc (.cells #[.int .i64 ((z : Int) - 1)] 3)).cell? ((⟨w3.heap.size, 0, none⟩ : Addr).add i) = some u) := Lib.hid (World.news_of_block (World.alloc_heap_new w3 (.cells #[.int .i64 ((z : Int) - 1)] 3)))
        have H2 : Hid (∀ u ∈ [Value.int .i64 ((z : Int) - 1)], u.oneCell' = true) := Lib.hid (by simp [Value.oneCell'])
        have H5 : Hid (w.heap.size ≤ (w3.alloc (.cells #[.int .i64 ((z : Int) - 1)] 3)).heap.size) := Lib.hid (by rw [World.size_alloc]; omega)
        have H34 : Hid ((w3.alloc (.cells #[.int .i64 ((z : Int) - 1)] 3)).ownsRow w.heap.size 3 1 (.slice q3a k q3c) k (nums RL)) := Lib.hid (by
          have h9 := own_kept h32' hal
          change World.ownsRow _ _ _ _ _ _ _ at h9
          rw [HRK.out] at h9
          exact h9)
        have H6 : Hid (k + 1 ≤ maxLen ∧ (k + 1) * 8 ≤ 140737488355328) := Lib.hid ⟨by unfold maxLen; omega, by omega⟩
        clear ho3 hg3 hat3 hl3 hJ3 h31 h32 h32' h33 hal hz
        go_wp2_with (at_builtin; refine wpList_append_lies _ rfl (.tmp 36) (.tmp 40) 40 rfl w.heap.size 3 i0 (.int .i64 0) 1 8 Tryd.underlying40 hi hz0 hz1 hz2 rfl (by decide) (.slice q3a k q3c) k (nums RL) rfl H34.out ⟨w3.heap.size, 0, none⟩ 1 1 [.int .i64 ((z : Int) - 1)] rfl rfl H1.out H2.out (by decide) H6.out.1 H6.out.2 H5.out _ rfl ?_)
        intro g4 cap4 w4 ho4 hg4 hat4 hl4
        have hk4 := JI.kid (W := w3.alloc (.cells #[.int .i64 ((z : Int) - 1)] 3)) (W' := w4) (y := (z : Int) - 1) (HJ3.out.own.below HAL.out) HJ3.out.off (HJ3.out.below.trans (HAL.out.mono hb3s)) (H31.out.alloc _) (own_kept H32.out HAL.out) H33.out (q' := .slice (some ⟨g4, 0, none⟩) (k + 1) cap4) rfl (by
          show World.ownsRow _ _ _ _ _ _ _
          rw [List.length_append, HRK.out, nums_snoc]
          exact ho4) hg4 (by rw [World.size_alloc]; exact hat4)
        obtain ⟨hr4, hJ4⟩ := hk4
        obtain ⟨-, -, v2, -, -, f2⟩ := node_cells hr4
        have HJ4 := Lib.hid hJ4
        clear ho4 hg4 hat4 hl4 hr4 hJ4 x2
        go_wp2
        go_roundw
        case rel =>
          refine ⟨k + 1, L ++ M, RL ++ [(z : Int) - 1], by omega, by go_num, HJ4.out, ?_, ?_, ?_, ?_⟩
          · rw [← HJN.out, show KS.drop k = K :: KS.drop (k + 1) from (List.drop_eq_getElem?_toList_append (l := KS) (i := k)).trans (by rw [HX.out]; rfl)]
            show _ = jn (KS.drop (k + 1)) (L.map (·.1) ++ K.map (movN ((L.map (·.1)).length : Int))) (RL ++ [(((L.map (·.1)).length + K.length : Nat) : Int) - 1])
            rw [List.map_append, HM2.out, List.length_map, ← HM.out, ← HNK.out, ← HZ.out]
          · rw [List.length_append, ← HM.out, HML.out, ← HZ.out]
            exact hzu
          · rw [List.length_append, HRK.out]
            rfl
          · intro K' hK'
            rw [List.take_add_one, HX.out] at hK'
            rcases List.mem_append.1 hK' with h | h
            · exact HALL.out K' h
            · obtain rfl : K' = K := by simpa using h
              exact HRB.out
        case measure => simp [intOf]; omega
      · have hRf : rightB K = false := by simpa using hR
        rw [hRf] at HRT
        have HBAD : Hid (joinA kd X KS = ([], 70)) := Lib.hid (by
          unfold joinA
          have : KS.all rightB = false := by
            rw [List.all_eq_false]
            exact ⟨K, HMEM.out, hR⟩
          rw [this]
          rfl)
        clear hR hRf
        go_wp2_with fail
        refine HRT.out.mono ?_
        rintro e w1 ⟨rfl, hb1⟩
        have HB1 := Lib.hid (HB.out.trans (hb1.mono hbs))
        clear hb1 e1
        go_wp2
        refine bodyPost_ret (v := .tuple #[.slice none 0 0, .int .i64 70]) (by simp [results, Tryd.f24, go_sem]) rfl ⟨HB1.out, TOLD.no HBAD.out⟩
    · obtain rfl : k = n := by omega
      have HJE : Hid (joinL kd X KS = (L.map (·.1)) ++ [⟨kd, X, RL⟩]) := Lib.hid (by
        have h9 := HJN.out
        rw [HN.out, List.drop_length] at h9
        unfold joinL
        rw [← h9]
        rfl)
      have HALR : Hid (KS.all rightB = true) := Lib.hid (by
        rw [List.all_eq_true]
        intro K hK
        refine HALL.out K ?_
        rw [HN.out, List.take_length]
        exact hK)
      obtain ⟨q, hr, hq, hqd⟩ := HJ.out.box
      obtain ⟨qa, qc, rfl⟩ := own_form hq
      rw [HRK.out] at hr
      have HQ : Hid (IOwn wr w.heap.size (.slice qa k qc) RL) := Lib.hid (by
        have h9 := hq
        rw [HRK.out] at h9
        exact h9)
      obtain ⟨x0, x1, x2, -, -, -⟩ := node_cells hr
      have HON : Hid (wr.ownsRow w.heap.size 42 3 (.slice ua m uc) m (cellsN L)) := Lib.hid (by
        have := HJ.out.own.row
        rw [← HM.out] at this
        exact this)
      have H1 : Hid (∀ (i : Nat) (u : Value), [Value.int .i64 kd, .string U, .slice qa k qc][i]? = some u → (wr.alloc (.cells #[.int .i64 kd, .string U, .slice qa k qc] 42)).cell? ((⟨wr.heap.size, 0, none⟩ : Addr).add i) = some u) := Lib.hid (World.news_of_block (World.alloc_heap_new wr (.cells #[.int .i64 kd, .string U, .slice qa k qc] 42)))
      have H2 : Hid (∀ u ∈ [Value.int .i64 kd, .string U, .slice qa k qc], u.oneCell' = true) := Lib.hid (by simp [Value.oneCell'])
      have H5 : Hid (w.heap.size ≤ (wr.alloc (.cells #[.int .i64 kd, .string U, .slice qa k qc] 42)).heap.size) := Lib.hid (by rw [World.size_alloc]; omega)
      have H4 : Hid (m + 1 ≤ maxLen ∧ (m + 1) * 48 ≤ 140737488355328) := Lib.hid ⟨by unfold maxLen; omega, by omega⟩
      clear hr hq hqd
      go_wp2_with (at_builtin; refine wpList_append_lies _ rfl (.tmp 43) (.tmp 45) 22 rfl w.heap.size 42 i2 (.agg #[.int .i64 0, .string ⟨#[]⟩, .slice none 0 0]) 3 48 Tryd.underlying22 hj hy0 hy1 hy2 rfl (by decide) (.slice ua m uc) m (cellsN L) rfl (HON.out.alloc _) ⟨wr.heap.size, 0, none⟩ 1 1 [.int .i64 kd, .string U, .slice qa k qc] rfl rfl H1.out H2.out (by decide) H4.out.1 H4.out.2 H5.out _ rfl ?_)
      intro g4 cap4 w4 ho4 hg4 hat4 hl4
      have hal : Below wr.heap.size wr (wr.alloc (.cells #[.int .i64 kd, .string U, .slice qa k qc] 42)) := (Below.refl _ _).alloc (Nat.le_refl _) _
      have hbw : Below w.heap.size w w4 := below_grown2 (HB.out.trans (hal.mono hbs)) H5.out hg4 (fun j e => (HON.out.lt j e).1)
      have hnod : nodC ((⟨kd, X, RL⟩ : Nd), (.slice qa k qc : Value)) = [.int .i64 kd, .string U, .slice qa k qc] := by rw [HU.out]; rfl
      have hN4 : NOwn w4 w.heap.size (.slice (some ⟨g4, 0, none⟩) (m + 1) cap4) (L ++ [(⟨kd, X, RL⟩, .slice qa k qc)]) := (HJ.out.own.below hal).grow hg4 (by
        rw [List.length_append, ← HM.out, cellsN_snoc, hnod]
        exact ho4) (fun p hp => by
        obtain rfl := List.mem_singleton.1 hp
        exact own_kept HQ.out hal)
      have hNL := hN4.nl
      rw [List.map_append] at hNL
      have e9 : L.map (·.1) ++ ([((⟨kd, X, RL⟩ : Nd), (.slice qa k qc : Value))].map (·.1)) = joinL kd X KS := by rw [HJE.out]; rfl
      rw [e9] at hNL
      have HNL := Lib.hid hNL
      have HBW := Lib.hid hbw
      have hsm : ∀ x ∈ joinL kd X KS, x.kids.length ≤ 60 ∧ x.text.length ≤ 50 := join_small HXL.out HKL.out (fun K hK => (HS.out K hK).2)
      have hlen : (joinL kd X KS).length = m + 1 := by rw [HJE.out, List.length_append, List.length_map, ← HM.out]; rfl
      have HLEN := Lib.hid hlen
      have HRT : Hid (Calls Tryd.prog 12 #[.slice (some ⟨g4, 0, none⟩) (m + 1) cap4] w4 fun e W' => e = .returned (.bool (rightB (joinL kd X KS))) ∧ Below w4.heap.size w4 W') := Lib.hid (right_c _ _ w4 hNL (by
        have := kids_len60 (fun x hx => (hsm x hx).1)
        omega))
      have hbws := hbw.size
      clear ho4 hg4 hat4 hl4 hal hnod hN4 hNL e9 hsm hlen x0 x1 x2 hbw
      by_cases hR : rightB (joinL kd X KS) = true
      · rw [hR] at HRT
        have HOK : Hid (joinA kd X KS = (joinL kd X KS, 0)) := Lib.hid (by
          unfold joinA
          rw [HALR.out, hR]
          rfl)
        clear hR
        go_wp2_with fail
        refine HRT.out.mono ?_
        rintro e w5 ⟨rfl, hb5⟩
        have HB5 := Lib.hid (HBW.out.trans (hb5.mono hbws))
        have HT : Hid (TOLD w5 (.returned (.tuple #[.slice (some ⟨g4, 0, none⟩) (m + 1) cap4, .int .i64 0])) (joinA kd X KS)) := Lib.hid (by
          rw [HOK.out]
          refine ⟨some ⟨g4, 0, none⟩, cap4, ?_, ?_⟩
          · show _ = Ending.returned (.tuple #[.slice _ (joinL kd X KS).length _, .int .i64 0])
            rw [HLEN.out]
          · show NL w5 (.slice _ (joinL kd X KS).length _) (joinL kd X KS)
            rw [HLEN.out]
            exact HNL.out.below hb5)
        clear hb5
        go_wp2
        refine bodyPost_ret (v := .tuple #[.slice (some ⟨g4, 0, none⟩) (m + 1) cap4, .int .i64 0]) (by simp [results, Tryd.f24, go_sem]) rfl ⟨HB5.out, HT.out⟩
      · have hRf : rightB (joinL kd X KS) = false := by simpa using hR
        rw [hRf] at HRT
        have HBAD : Hid (joinA kd X KS = ([], 70)) := Lib.hid (by
          unfold joinA
          rw [HALR.out, hRf]
          rfl)
        clear hR hRf
        go_wp2_with fail
        refine HRT.out.mono ?_
        rintro e w5 ⟨rfl, hb5⟩
        have HB5 := Lib.hid (HBW.out.trans (hb5.mono hbws))
        clear hb5
        go_wp2
        refine bodyPost_ret (v := .tuple #[.slice none 0 0, .int .i64 70]) (by simp [results, Tryd.f24, go_sem]) rfl ⟨HB5.out, TOLD.no HBAD.out⟩
end Go.Proofs.YtbegplfijjbpcaaDoor.No
