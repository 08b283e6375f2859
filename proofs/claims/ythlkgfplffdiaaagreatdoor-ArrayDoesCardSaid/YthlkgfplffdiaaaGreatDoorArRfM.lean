/- The plain Mon of stage 11. -/
import Derived.Test.YthlkgfplffdiaaaGreatDoorArRfA
import Derived.Maps.AppendAt
namespace Go.Proofs.YthlkgfplffdiaaaGreatDoor.Ar
open Go Go.RowKit Go.Shelf
attribute [local go_sem] Oper.semAt_some

theorem thr_stop {h : Int → Int → Int × Int} {P : List (Int × Int)} {k : Nat} {p : Int × Int} (hp : P[k]? = some p) (hok : ∀ q ∈ P.take k, (h q.1 q.2).2 = 0) (hx : (h p.1 p.2).2 ≠ 0) : thrE h P = (h p.1 p.2).2 := by
  obtain ⟨hk, hpe⟩ := List.getElem?_eq_some_iff.1 hp
  have e : P.take k ++ p :: P.drop (k + 1) = P := by rw [← hpe, ← List.drop_eq_getElem_cons hk, List.take_append_drop]
  have := thrE_bad (rest := P.drop (k + 1)) hok hx
  rw [e] at this
  exact this
theorem thr_snoc {h : Int → Int → Int × Int} {P : List (Int × Int)} {k : Nat} {p : Int × Int} (hp : P[k]? = some p) : thrN h (P.take (k + 1)) = thrN h (P.take k) ++ [(h p.1 p.2).1] := by
  rw [List.take_add_one, hp]
  simp [thrN]
theorem ok_snoc {h : Int → Int → Int × Int} {P : List (Int × Int)} {k : Nat} {p : Int × Int} (hp : P[k]? = some p) (hok : ∀ q ∈ P.take k, (h q.1 q.2).2 = 0) (hx : (h p.1 p.2).2 = 0) : ∀ q ∈ P.take (k + 1), (h q.1 q.2).2 = 0 := fun q hq => by
  rw [List.take_add_one, hp, List.mem_append] at hq
  rcases hq with hq | hq
  · exact hok q hq
  · simp at hq
    rw [hq]
    exact hx
theorem thr_take (h : Int → Int → Int × Int) (P : List (Int × Int)) (k : Nat) (hk : k ≤ P.length) : (thrN h (P.take k)).length = k := by
  rw [thrN_len, List.length_take]
  omega
theorem item_at {a : Ary} (hr : rightA a = true) {k : Nat} {x : Int} (hx : a.n[k]? = some x) : itemA a k = x := by
  have hk := (List.getElem?_eq_some_iff.1 hx).1
  unfold itemA
  split
  · rw [List.getD_eq_getElem?_getD, hx]; rfl
  · rename_i hl
    have h1 := (right_cnt hr).2 (by simpa using hl)
    obtain rfl : k = 0 := by omega
    rw [List.getD_eq_getElem?_getD, hx]; rfl

set_option maxRecDepth 100000 in
set_option maxHeartbeats 16000000 in
theorem pmon_c (g : ByteArray) (a : Ary) (s : Value) (w : World) (hs : KL w s a.n) (hi : InL a.n) : Calls Tryz.prog 12 #[.string g, aryV a s] w fun e w' => Tells (monZ g a) (monE g a) w e w' := by
  obtain ⟨c, hc⟩ : ∃ c, c = monE g a := ⟨_, rfl⟩
  obtain ⟨Z, hZ⟩ : ∃ Z, Z = monZ g a := ⟨_, rfl⟩
  rw [← hc, ← hZ]
  obtain ⟨h, hh⟩ : ∃ h : Int → Int → Int × Int, h = fun _ y => Nu.monN (Nu.whichM g) y := ⟨_, rfl⟩
  obtain ⟨P, hP⟩ : ∃ P, P = pairsA a a := ⟨_, rfl⟩
  have H1 : Hid (rightA a = false → c = 114 ∧ Z = ⟨false, false, []⟩) := Lib.hid (fun hr => by
    have e : monE g a = 114 := by unfold monE; rw [hr]; rfl
    rw [hc, hZ, monZ_bad (by rw [e]; decide), e]
    exact ⟨rfl, rfl⟩)
  have H2 : Hid (rightA a = true → (decide (Nu.whichM g < 8) && !hasR a) = false → c = 102 ∧ Z = ⟨false, false, []⟩) := Lib.hid (fun hr hd => by
    have e : monE g a = 102 := by unfold monE; rw [hr, hd]; rfl
    rw [hc, hZ, monZ_bad (by rw [e]; decide), e]
    exact ⟨rfl, rfl⟩)
  have H3 : Hid (rightA a = true → (decide (Nu.whichM g < 8) && !hasR a) = true → c = thrE h P ∧ (thrE h P = 0 → Z = ⟨a.list, false, thrN h P⟩) ∧ (thrE h P ≠ 0 → Z = ⟨false, false, []⟩) ∧ P.length = a.n.length ∧ a.n.length ≤ 200 ∧ ∀ k x, a.n[k]? = some x → P[k]? = some (x, x)) := Lib.hid (fun hr hd => by
    have e : monE g a = thrE h P := by unfold monE; rw [hr, hd, hP, hh]; rfl
    have hl : lenP a a = a.n.length := by unfold lenP; split <;> rfl
    refine ⟨by rw [hc, e], fun h0 => ?_, fun h0 => ?_, by rw [hP, pairs_len, hl], (right_cnt hr).1, fun k x hx => ?_⟩
    · rw [hZ]; unfold monZ monL; rw [if_pos (by rw [e]; exact h0), hP, hh]
    · rw [hZ]; exact monZ_bad (by rw [e]; exact h0)
    · have hk := (List.getElem?_eq_some_iff.1 hx).1
      rw [hP, pairs_at (by rw [hl]; exact hk), item_at hr hx])
  have HM : Hid (∀ x ∈ a.n, ∀ W, Calls Tryz.prog 25 #[.string g, .int .i64 x] W fun e w' => e = .returned (Nu.numV (h x x)) ∧ Below W.heap.size W w') := Lib.hid (fun x hx W => by rw [hh]; exact Nu.rmon_c g x (hi x hx) W)
  have HI := Lib.hid (fun W => Nu.rIsMon_c g W)
  clear hc hZ hh hP hi
  obtain ⟨L, R, N⟩ := a
  obtain ⟨a0, c0, rfl, h1, h2⟩ := hs.form
  unfold maxLen at h2
  dsimp only [aryV] at *
  have HK := Lib.hid hs
  obtain ⟨n, hn⟩ : ∃ n, n = N.length := ⟨_, rfl⟩
  rw [← hn] at h1 H3 HK ⊢
  have HN := Lib.hid hn
  have HA : Hid (hasR ⟨L, R, N⟩ = (R && decide ((0 : Int) < (n : Int)))) := Lib.hid (by
    unfold hasR
    dsimp only
    rw [hn]
    congr 1
    rw [decide_eq_decide]
    omega)
  clear hs hn
  obtain ⟨u0, hu0⟩ : ∃ u0, u0 = (w.alloc (.cells #[.bool L, .bool R, .slice a0 n c0] 24)).alloc (.cells #[.bool false, .bool false, .slice none 0 0] 24) := ⟨_, rfl⟩
  have hb0 : Below w.heap.size w u0 := by rw [hu0]; exact ((Below.refl _ w).alloc (Nat.le_refl _) _).alloc (by simp) _
  have HRA0 : Hid (Row u0 w.heap.size 24 #[.bool L, .bool R, .slice a0 n c0]) := Lib.hid (by rw [hu0]; exact (Row.new _ _ _).alloc _)
  have HRR0 : Hid (Row u0 (w.heap.size + 1) 24 #[.bool false, .bool false, .slice none 0 0]) := Lib.hid (by rw [hu0]; exact Row.at _ _ _ _ (by simp))
  have HRI := Lib.hid (rright_c ⟨L, R, N⟩ (.slice a0 n c0) u0 (HK.out.below hb0))
  have HB0 := Lib.hid hb0
  have HU0 := Lib.hid hu0
  dsimp only [aryV] at HRI
  obtain ⟨x0, x1, x2, -, -, -⟩ := row3 HRA0.out
  rw [hu0] at x0 x1 x2
  clear hb0 hu0
  go_enter Tryz.func12, Tryz.ntmps12
  go_wp2_with fail
  rw [← HU0.out]
  refine HRI.out.mono ?_
  rintro e w1 ⟨rfl, hb⟩
  clear x0 x1 x2
  have HB1 := Lib.hid (HB0.out.trans (hb.mono HB0.out.size))
  have HRA1 := Lib.hid (HRA0.out.below hb HRA0.out.lt)
  have HRR1 := Lib.hid (HRR0.out.below hb HRR0.out.lt)
  have HS1 : Hid (w.heap.size + 2 ≤ w1.heap.size) := Lib.hid (by have := hb.size; rw [HU0.out] at this; simpa using this)
  clear hb HU0
  rcases hr : rightA ⟨L, R, N⟩ with _ | _
  · obtain ⟨rfl, rfl⟩ := H1.out hr
    clear H1 H2 H3 HM HI
    obtain ⟨m0, m1, m2, f0, f1, f2⟩ := row3 HRR1.out
    go_wp2_with fail
    obtain ⟨v0, v1, v2, -, -, -⟩ := row3 (row_set3 HRR1.out (.bool false) (.bool false) (.slice none 0 0))
    have hle : w.heap.size ≤ w.heap.size + 1 := by omega
    exact bodyPost_ret (v := .tuple #[.agg #[.bool false, .bool false, .slice none 0 0], .int .i64 114]) (by simp [results, Tryz.f12, go_sem, v0, v1, v2]) rfl ⟨none, 0, 0, rfl, IOwn.nil _ _, ((HB1.out.setCell (p := ⟨w.heap.size + 1, 0, none⟩) hle _).setCell (p := ⟨w.heap.size + 1, 1, none⟩) hle _).setCell (p := ⟨w.heap.size + 1, 2, none⟩) hle _⟩
  · have HCM := Lib.hid (HI.out w1)
    obtain ⟨y0, y1, y2, -, -, -⟩ := row3 HRA1.out
    have h2' := H2.out hr
    have h3' := H3.out hr
    have HH2 := Lib.hid h2'
    have HH3 := Lib.hid h3'
    clear H1 H2 H3 hr h2' h3'
    go_wp2_with fail
    refine HCM.out.mono ?_
    rintro e w2 ⟨rfl, hb⟩
    clear y0 y1 y2
    have HB2 := Lib.hid (HB1.out.trans (hb.mono HB1.out.size))
    have HRA2 := Lib.hid (HRA1.out.below hb HRA1.out.lt)
    have HRR2 := Lib.hid (HRR1.out.below hb HRR1.out.lt)
    have HS2 := Lib.hid (Nat.le_trans HS1.out hb.size)
    clear hb
    obtain ⟨y0, y1, y2, -, -, -⟩ := row3 HRA2.out
    rcases hm : decide (Nu.whichM g < 8) with _ | _
    · obtain ⟨rfl, rfl⟩ := HH2.out (by rw [hm]; rfl)
      clear HH2 HH3 HM HI
      obtain ⟨m0, m1, m2, f0, f1, f2⟩ := row3 HRR2.out
      go_wp2_with fail
      obtain ⟨v0, v1, v2, -, -, -⟩ := row3 (row_set3 HRR2.out (.bool false) (.bool false) (.slice none 0 0))
      have hle : w.heap.size ≤ w.heap.size + 1 := by omega
      exact bodyPost_ret (v := .tuple #[.agg #[.bool false, .bool false, .slice none 0 0], .int .i64 102]) (by simp [results, Tryz.f12, go_sem, v0, v1, v2]) rfl ⟨none, 0, 0, rfl, IOwn.nil _ _, ((HB2.out.setCell (p := ⟨w.heap.size + 1, 0, none⟩) hle _).setCell (p := ⟨w.heap.size + 1, 1, none⟩) hle _).setCell (p := ⟨w.heap.size + 1, 2, none⟩) hle _⟩
    · rcases hq : (R && decide ((0 : Int) < (n : Int))) with _ | _
      rotate_left
      · obtain ⟨rfl, rfl⟩ := HH2.out (by rw [HA.out, hq]; simp)
        clear HH2 HH3 HM HI HA
        rw [Bool.and_eq_true] at hq
        obtain ⟨rfl, hq⟩ := hq
        have hq' := of_decide_eq_true hq
        obtain ⟨m0, m1, m2, f0, f1, f2⟩ := row3 HRR2.out
        go_wp2_with fail
        obtain ⟨v0, v1, v2, -, -, -⟩ := row3 (row_set3 HRR2.out (.bool false) (.bool false) (.slice none 0 0))
        have hle : w.heap.size ≤ w.heap.size + 1 := by omega
        exact bodyPost_ret (v := .tuple #[.agg #[.bool false, .bool false, .slice none 0 0], .int .i64 102]) (by simp [results, Tryz.f12, go_sem, v0, v1, v2]) rfl ⟨none, 0, 0, rfl, IOwn.nil _ _, ((HB2.out.setCell (p := ⟨w.heap.size + 1, 0, none⟩) hle _).setCell (p := ⟨w.heap.size + 1, 1, none⟩) hle _).setCell (p := ⟨w.heap.size + 1, 2, none⟩) hle _⟩
      obtain ⟨hce, hz, hbad, hlen, h200, hat⟩ := HH3.out (by rw [HA.out, hq, hm]; rfl)
      have HCE := Lib.hid hce
      have HZ := Lib.hid hz
      have HBAD := Lib.hid hbad
      have HLEN := Lib.hid hlen
      have HAT := Lib.hid hat
      have H200 := Lib.hid h200
      clear HH2 HH3 HA hz hbad hlen hat h200 hm hce
      obtain ⟨u3, hu3⟩ : ∃ u, u = w2.alloc (.cells #[.bool L, .bool false, .slice none 0 0] 24) := ⟨_, rfl⟩
      obtain ⟨bo, hbo⟩ : ∃ b, b = w2.heap.size := ⟨_, rfl⟩
      have hbu : Below w2.heap.size w2 u3 := by rw [hu3]; exact (Below.refl _ _).alloc (Nat.le_refl _) _
      have HB3 := Lib.hid (HB2.out.trans (hbu.mono HB2.out.size))
      have HRA3 := Lib.hid (HRA2.out.below hbu HRA2.out.lt)
      have HRR3 := Lib.hid (HRR2.out.below hbu HRR2.out.lt)
      have HRO3 : Hid (Row u3 bo 24 #[.bool L, .bool false, .slice none 0 0]) := Lib.hid (by rw [hu3, hbo]; exact Row.new _ _ _)
      have HBO : Hid (w.heap.size + 2 ≤ bo) := Lib.hid (by rw [hbo]; exact HS2.out)
      have HU3 := Lib.hid hu3
      have HBOE := Lib.hid hbo
      clear hbu hu3 hbo
      cases R with
      | false =>
        clear hq
        go_wp2_with fail
        rw [← HU3.out, ← HBOE.out]
        clear y0 y1 y2
        go_loopw [7] (fun i wr => ∃ (k : Nat) (va : Option Addr) (vc : Nat), k ≤ n ∧ i = .int .i64 k ∧ Below w.heap.size w wr ∧ Row wr w.heap.size 24 #[.bool L, .bool false, .slice a0 n c0] ∧ Row wr (w.heap.size + 1) 24 #[.bool false, .bool false, .slice none 0 0] ∧ Row wr bo 24 #[.bool L, .bool false, .slice va k vc] ∧ IOwn wr w.heap.size (.slice va k vc) (thrN h (P.take k)) ∧ ∀ q ∈ P.take k, (h q.1 q.2).2 = 0) (fun i _ => n - (intOf i).toNat)
        case atStart => exact ⟨0, none, 0, Nat.zero_le _, rfl, HB3.out, HRA3.out, HRR3.out, HRO3.out, IOwn.nil _ _, fun q hq => by simp at hq⟩
        case round =>
          obtain ⟨k, va, vc, hk, rfl, hB, ra, rr, ro, ho, hok⟩ := hrel
          have h200 := H200.out
          have HB := Lib.hid hB
          have HA := Lib.hid ra
          have HR := Lib.hid rr
          have HO := Lib.hid ro
          have HOWN := Lib.hid ho
          have HOK := Lib.hid hok
          by_cases hlt : k < n
          · obtain ⟨x, hx⟩ := at_of (L := N) (k := k) (by rw [← HN.out]; exact hlt)
            have hpx := HAT.out k x hx
            obtain ⟨ga, oa, ca, e, hga, hca⟩ := (HK.out.below hB).cells (by rw [← HN.out]; omega)
            injection e with e1 e2 e3
            subst e1
            have cx := hca k x hx
            have HCM := Lib.hid (HM.out x (List.mem_of_getElem? hx) wr)
            have HPX := Lib.hid hpx
            obtain ⟨y0, y1, y2, -, -, -⟩ := row3 ra
            have hz : (0 : Int) ≤ (k : Int) := Int.natCast_nonneg _
            have hzn : (k : Int) < (n : Int) := by omega
            clear hca hB ra rr ro ho hok hpx hx e2 e3 hga
            go_wp2_with fail
            refine HCM.out.mono ?_
            rintro e w5 ⟨rfl, hb⟩
            clear y0 y1 y2
            have HB5 := Lib.hid (HB.out.trans (hb.mono HB.out.size))
            have HA5 := Lib.hid (HA.out.below hb HA.out.lt)
            have HR5 := Lib.hid (HR.out.below hb HR.out.lt)
            have HO5 := Lib.hid (HO.out.below hb HO.out.lt)
            have HOWN5 := Lib.hid (HOWN.out.below hb)
            clear hb
            rcases hp : h x x with ⟨q, er⟩
            unfold Nu.numV
            dsimp only
            by_cases he : er = 0
            · subst he
              have HPE := Lib.hid hp
              obtain ⟨i0, hi, hz0, hz1, hz2⟩ := infoI
              have o2 := HOWN5.out.below ((Below.refl w5.heap.size w5).alloc (Nat.le_refl _) (.cells #[.int .i64 q] 2))
              have o3 := o2
              change World.ownsRow _ _ _ _ _ _ _ at o3
              rw [thr_take _ _ _ (by rw [HLEN.out]; omega)] at o3
              have HO3 := Lib.hid o3
              have r2 : Row (w5.alloc (.cells #[.int .i64 q] 2)) bo 24 #[.bool L, .bool false, .slice va k vc] := HO5.out.alloc _
              have hne : (Value.slice va k vc).ownBlock ≠ some bo := own_off HOWN5.out HO5.out (by decide)
              have HR2 := Lib.hid r2
              have HNE := Lib.hid hne
              have H1 : Hid (∀ (j : Nat) (u : Value), [Value.int .i64 q][j]? = some u → (w5.alloc (.cells #[.int .i64 q] 2)).cell? ((⟨w5.heap.size, 0, none⟩ : Addr).add j) = some u) := Lib.hid (World.news_of_block (World.alloc_heap_new w5 (.cells #[.int .i64 q] 2)))
              have H4 : Hid (k + 1 ≤ maxLen ∧ (k + 1) * 8 ≤ 140737488355328 ∧ w.heap.size ≤ (w5.alloc (.cells #[.int .i64 q] 2)).heap.size) := Lib.hid ⟨by unfold maxLen; omega, by omega, by rw [World.size_alloc]; exact Nat.le_succ_of_le HB5.out.size⟩
              obtain ⟨z0, z1, z2, -, -, -⟩ := row3 HO5.out
              clear o2 o3 r2 hne hp
              go_wp2_with (at_builtin; refine wpList_append_own_at _ rfl (.tmp 53) (.tmp 55) 22 rfl w.heap.size 2 i0 (.int .i64 0) 1 8 Tryz.underlying22 hi hz0 hz1 hz2 rfl (by decide) (.slice va k vc) k (nums (thrN h (P.take k))) rfl HO3.out ⟨w5.heap.size, 0, none⟩ 1 1 [.int .i64 q] rfl rfl H1.out (by simp [Value.oneCell']) H4.out.1 H4.out.2.1 H4.out.2.2 ?_; intro v' w3 how3 hg3 _ hob3; have HO4 := Lib.hid how3; have HG3 := Lib.hid hg3; have k6 : Row w3 bo 24 #[.bool L, .bool false, .slice va k vc] := (hg3.block bo HR2.out.lt (fun e => HNE.out e.symm)).trans HR2.out; obtain ⟨d0, d1, d2, g0, g1, g2⟩ := row3 k6; have HR8 := Lib.hid k6; obtain ⟨gv, cap2, rfl⟩ : ∃ gv cap2, v' = .slice (some ⟨gv, 0, none⟩) (k + 1) cap2 := (by rcases how3.2 with ⟨_, h⟩ | ⟨gv, cap2, cur, h, _⟩; exact absurd h (by omega); exact ⟨gv, cap2, h⟩); clear how3 hg3 hob3 k6)
              go_roundw
              case rel =>
                have hbg : Below w.heap.size w w3 := (HB5.out.alloc HB5.out.size _).grown HG3.out (by rw [World.size_alloc]; exact Nat.le_succ_of_le HB5.out.size) (fun j e => (own_base HOWN5.out e).1)
                have kHA := (HG3.out.block _ (HA5.out.alloc (.cells #[.int .i64 q] 2)).lt (fun e => own_off HOWN5.out HA5.out (by decide) e.symm)).trans (HA5.out.alloc (.cells #[.int .i64 q] 2))
                have kHR := (HG3.out.block _ (HR5.out.alloc (.cells #[.int .i64 q] 2)).lt (fun e => own_off HOWN5.out HR5.out (by decide) e.symm)).trans (HR5.out.alloc (.cells #[.int .i64 q] 2))
                have ho4 : IOwn w3 w.heap.size (.slice (some ⟨gv, 0, none⟩) (k + 1) cap2) (thrN h (P.take (k + 1))) := by
                  have e1 := thr_snoc (h := h) HPX.out
                  dsimp only at e1
                  rw [HPE.out] at e1
                  have := HO4.out
                  show World.ownsRow _ _ _ _ _ _ _
                  rw [thr_take _ _ _ (by rw [HLEN.out]; omega), e1, nums_snoc]
                  exact this
                refine ⟨k + 1, some ⟨gv, 0, none⟩, cap2, by omega, by go_num, hbg.setCell (p := ⟨bo, 2, none⟩) (by have := HBO.out; show w.heap.size ≤ bo; omega) _, Row.other kHA (by have := HBO.out; omega) _, Row.other kHR (by have := HBO.out; omega) _, ?_, ho4.keep (fun j e => Below.heap_setCell _ ⟨bo, 2, none⟩ _ j (fun e2 => own_off ho4 HR8.out (by decide) (by rw [e, e2]))), ok_snoc HPX.out HOK.out (by rw [HPE.out])⟩
                have := HR8.out.set 2 (.slice (some ⟨gv, 0, none⟩) (k + 1) cap2)
                simpa using this
              case measure => simp [intOf]; omega
            · have hst := thr_stop HPX.out HOK.out (show (h x x).2 ≠ 0 from by rw [hp]; exact he)
              dsimp only at hst
              rw [hp] at hst
              dsimp only at hst
              have hZ := HBAD.out (by rw [hst]; exact he)
              subst hZ
              have hc := HCE.out.trans hst
              subst hc
              have t1 : (c != 0) = true := by simpa using he
              clear HZ HBAD HCE hst hp
              obtain ⟨m0, m1, m2, f0, f1, f2⟩ := row3 HR5.out
              go_wp2_with fail
              obtain ⟨v0, v1, v2, -, -, -⟩ := row3 (row_set3 HR5.out (.bool false) (.bool false) (.slice none 0 0))
              have hle : w.heap.size ≤ w.heap.size + 1 := by omega
              exact bodyPost_ret (v := .tuple #[.agg #[.bool false, .bool false, .slice none 0 0], .int .i64 c]) (by simp [results, Tryz.f12, go_sem, v0, v1, v2]) rfl ⟨none, 0, 0, rfl, IOwn.nil _ _, ((HB5.out.setCell (p := ⟨w.heap.size + 1, 0, none⟩) hle _).setCell (p := ⟨w.heap.size + 1, 1, none⟩) hle _).setCell (p := ⟨w.heap.size + 1, 2, none⟩) hle _⟩
          · obtain rfl : n = k := by omega
            have hall : P.take n = P := by rw [← HLEN.out, List.take_length]
            rw [hall] at hok ho
            have h0 : thrE h P = 0 := thrE_ok hok
            have hZ := HZ.out h0
            subst hZ
            have hc := HCE.out.trans h0
            subst hc
            have HOW := Lib.hid ho
            obtain ⟨m0, m1, m2, f0, f1, f2⟩ := row3 rr
            obtain ⟨z0, z1, z2, -, -, -⟩ := row3 ro
            obtain ⟨y0, y1, y2, -, -, -⟩ := row3 ra
            clear hB ra rr ro ho hok hall h0 HZ HBAD HOK HOWN HCE
            go_wp2_with fail
            obtain ⟨v0, v1, v2, -, -, -⟩ := row3 (row_set3 HR.out (.bool L) (.bool false) (.slice va n vc))
            have hle : w.heap.size ≤ w.heap.size + 1 := by omega
            exact bodyPost_ret (v := .tuple #[.agg #[.bool L, .bool false, .slice va n vc], .int .i64 0]) (by simp [results, Tryz.f12, go_sem, v0, v1, v2]) rfl ⟨va, n, vc, rfl, own_off3 HOW.out HR.out _ _ _, ((HB.out.setCell (p := ⟨w.heap.size + 1, 0, none⟩) hle _).setCell (p := ⟨w.heap.size + 1, 1, none⟩) hle _).setCell (p := ⟨w.heap.size + 1, 2, none⟩) hle _⟩
      | true =>
        have hq' : ¬ (0 : Int) < (n : Int) := by simpa using hq
        have hq2 : ¬ 0 < n := by omega
        clear hq
        go_wp2_with fail
        rw [← HU3.out, ← HBOE.out]
        clear y0 y1 y2
        go_loopw [7] (fun i wr => ∃ (k : Nat) (va : Option Addr) (vc : Nat), k ≤ n ∧ i = .int .i64 k ∧ Below w.heap.size w wr ∧ Row wr w.heap.size 24 #[.bool L, .bool true, .slice a0 n c0] ∧ Row wr (w.heap.size + 1) 24 #[.bool false, .bool false, .slice none 0 0] ∧ Row wr bo 24 #[.bool L, .bool false, .slice va k vc] ∧ IOwn wr w.heap.size (.slice va k vc) (thrN h (P.take k)) ∧ ∀ q ∈ P.take k, (h q.1 q.2).2 = 0) (fun i _ => n - (intOf i).toNat)
        case atStart => exact ⟨0, none, 0, Nat.zero_le _, rfl, HB3.out, HRA3.out, HRR3.out, HRO3.out, IOwn.nil _ _, fun q hq => by simp at hq⟩
        case round =>
          obtain ⟨k, va, vc, hk, rfl, hB, ra, rr, ro, ho, hok⟩ := hrel
          have h200 := H200.out
          have HB := Lib.hid hB
          have HA := Lib.hid ra
          have HR := Lib.hid rr
          have HO := Lib.hid ro
          have HOWN := Lib.hid ho
          have HOK := Lib.hid hok
          by_cases hlt : k < n
          · exact absurd (Nat.lt_of_le_of_lt (Nat.zero_le _) hlt) hq2
          · obtain rfl : n = k := by omega
            have hall : P.take n = P := by rw [← HLEN.out, List.take_length]
            rw [hall] at hok ho
            have h0 : thrE h P = 0 := thrE_ok hok
            have hZ := HZ.out h0
            subst hZ
            have hc := HCE.out.trans h0
            subst hc
            have HOW := Lib.hid ho
            obtain ⟨m0, m1, m2, f0, f1, f2⟩ := row3 rr
            obtain ⟨z0, z1, z2, -, -, -⟩ := row3 ro
            obtain ⟨y0, y1, y2, -, -, -⟩ := row3 ra
            clear hB ra rr ro ho hok hall h0 HZ HBAD HOK HOWN HCE
            go_wp2_with fail
            obtain ⟨v0, v1, v2, -, -, -⟩ := row3 (row_set3 HR.out (.bool L) (.bool false) (.slice va n vc))
            have hle : w.heap.size ≤ w.heap.size + 1 := by omega
            exact bodyPost_ret (v := .tuple #[.agg #[.bool L, .bool false, .slice va n vc], .int .i64 0]) (by simp [results, Tryz.f12, go_sem, v0, v1, v2]) rfl ⟨va, n, vc, rfl, own_off3 HOW.out HR.out _ _ _, ((HB.out.setCell (p := ⟨w.heap.size + 1, 0, none⟩) hle _).setCell (p := ⟨w.heap.size + 1, 1, none⟩) hle _).setCell (p := ⟨w.heap.size + 1, 2, none⟩) hle _⟩
end Go.Proofs.YthlkgfplffdiaaaGreatDoor.Ar
