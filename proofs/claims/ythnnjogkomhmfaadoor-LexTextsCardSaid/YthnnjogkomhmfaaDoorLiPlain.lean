/- The tokens that are no blanks and no remarks. -/
import Derived.Test.YthnnjogkomhmfaaDoorLiMem
import Derived.Test.YthnnjogkomhmfaaDoorLxFirstOf
import Derived.Test.YthnnjogkomhmfaaDoorLxPlain
namespace Go.Proofs.YthnnjogkomhmfaaDoor.Ti
open Go Go.RowKit Go.Shelf
attribute [local go_sem] Oper.semAt_some

/-- Is it no blank and no remark? -/
def plainT (t : Tk) : Bool := t.kind != 1 && t.kind != 2
/-- Texts and glyphs are not too long. -/
def Small (L : List Tk) : Prop := ∀ t ∈ L, t.text.length ≤ 10000 ∧ t.glyph.length ≤ 10000
theorem filter_snoc (L : List Tk) (k : Nat) (t : Tk) (h : L[k]? = some t) : (L.take (k + 1)).filter plainT = if plainT t then (L.take k).filter plainT ++ [t] else (L.take k).filter plainT := by
  rw [List.take_add_one, h, List.filter_append]
  show _ ++ [t].filter plainT = _
  by_cases hp : plainT t
  · simp [hp]
  · simp [hp]

theorem ownL_kept {base : Nat} {X Y : World} {v : Value} {k : Nat} {xs : List Value} (h : X.ownsRow base 30 3 v k xs) (hb : Below X.heap.size X Y) : Y.ownsRow base 30 3 v k xs :=
  ownL_step (t := 59) (n := X.heap.size) (by decide) h ⟨hb, fun k _ ho _ => (hb.block k (Array.getElem?_eq_some_iff.1 ho).1).trans ho⟩

set_option maxRecDepth 100000 in
set_option maxHeartbeats 4000000 in
theorem without_c (v : Value) (L : List Tk) (gk : Nat) (w : World) (hL : TL w v L) (hl : L.length ≤ 10000) (hS : Small L) (hg1 : w.cell? ⟨gk, 0, none⟩ = some (.int .i64 1)) (hg2 : w.cell? ⟨gk, 1, none⟩ = some (.int .i64 2)) (hgk : gk < w.heap.size) :
    Calls Tryd.prog 23 #[v, .slice (some ⟨gk, 0, none⟩) 2 2] w fun e W' => ∃ v', e = .returned v' ∧ TL W' v' (L.filter plainT) ∧ Below w.heap.size w W' := by
  obtain ⟨i0, hi, hz0, hz1, hz2⟩ := info_tok
  obtain ⟨a0, c0, rfl, hc1, hc2⟩ := hL.form
  unfold maxLen at hc2
  have HCL := Lib.hid hL.cells
  obtain ⟨n, hn⟩ : ∃ n, n = L.length := ⟨_, rfl⟩
  rw [← hn] at hc1 hl HCL ⊢
  have HN := Lib.hid hn
  have HS := Lib.hid hS
  have HG1 := Lib.hid hg1
  have HG2 := Lib.hid hg2
  clear hL hn hS hg1 hg2
  go_enter Tryd.func23, Tryd.ntmps23
  go_wp2
  refine wp_scope_straight ?_
  go_wp2
  refine wp_label ?_
  go_wp2
  go_loopw [5, 12] (fun u i wr => ∃ k : Nat, k ≤ n ∧ i = .int .i64 k ∧ OwnL wr w.heap.size u ((L.take k).filter plainT) ∧ Below w.heap.size w wr)
    (fun _ i _ => n - (intOf i).toNat)
  case atStart => exact ⟨0, Nat.zero_le _, rfl, World.ownsRow_nil _ _ _ _, Below.refl _ _⟩
  case round =>
    obtain ⟨k, hk, rfl, hown, hb1⟩ := hrel
    have HO := Lib.hid hown
    have HB1 := Lib.hid hb1
    clear hown hb1
    by_cases hlt : k < n
    · obtain ⟨g, o, c1, hv, hg, hcs⟩ := HCL.out (by omega)
      obtain rfl : a0 = some ⟨g, o, none⟩ := by injection hv
      obtain ⟨t, ht⟩ : ∃ t, L[k]? = some t := ⟨_, List.getElem?_eq_getElem (by rw [← HN.out]; exact hlt)⟩
      obtain ⟨x0, x1, x2⟩ := hcs k t ht
      have hb := HB1.out
      have e0 := (hb.cell (p := ⟨g, o + k * 3, none⟩) hg).trans x0
      have e1 := (hb.cell (p := ⟨g, o + k * 3 + 1, none⟩) hg).trans x1
      have e2 := (hb.cell (p := ⟨g, o + k * 3 + 2, none⟩) hg).trans x2
      have hsm := HS.out t (List.mem_of_getElem? ht)
      have hfil := filter_snoc L k t ht
      obtain ⟨kn, hkn⟩ : ∃ kn : Int, kn = t.kind := ⟨_, rfl⟩
      obtain ⟨U, hU⟩ : ∃ U, U = bs t.text := ⟨_, rfl⟩
      obtain ⟨G, hGl⟩ : ∃ G, G = bs t.glyph := ⟨_, rfl⟩
      have hUs : U.size ≤ 10000 := by rw [hU, bs_size]; exact hsm.1
      have hGs : G.size ≤ 10000 := by rw [hGl, bs_size]; exact hsm.2
      have htl : tokL t = [.int .i64 kn, .string U, .string G] := by rw [hkn, hU, hGl]; rfl
      have hpt : plainT t = (kn != 1 && kn != 2) := by rw [hkn]; rfl
      rw [← hkn] at e0
      rw [← hU] at e1
      rw [← hGl] at e2
      have HTL := Lib.hid htl
      have HFIL := Lib.hid hfil
      have HPT := Lib.hid hpt
      have hbr := hb.size
      have hgk1 : ∀ o, (wr.alloc o).cell? ⟨gk, 0, none⟩ = some (.int .i64 1) := fun o => ((hb.alloc hbr o).cell (p := ⟨gk, 0, none⟩) hgk).trans HG1.out
      have hgk2 : ∀ o, (wr.alloc o).cell? ⟨gk, 1, none⟩ = some (.int .i64 2) := fun o => ((hb.alloc hbr o).cell (p := ⟨gk, 1, none⟩) hgk).trans HG2.out
      have k1 := hgk1 (.cells #[.int .i64 kn, .string U, .string G] 30)
      have k2 := hgk2 (.cells #[.int .i64 kn, .string U, .string G] 30)
      have rX : Row (wr.alloc (.cells #[.int .i64 kn, .string U, .string G] 30)) wr.heap.size 30 #[.int .i64 kn, .string U, .string G] := Row.new _ _ _
      have RX := Lib.hid rX
      clear hb hcs x0 x1 x2 hv ht hsm hfil hkn hU hGl htl hpt hgk1 hgk2 rX
      by_cases hk1 : kn = 1
      · subst hk1
        have HP : Hid ((L.take (k + 1)).filter plainT = (L.take k).filter plainT) := Lib.hid (by rw [HFIL.out, HPT.out]; rfl)
        go_wp2
        refine wp_loop_rounds 1 ?_
        rw [rounds_succ]
        go_wp2
        go_roundw
        case rel => exact ⟨k + 1, by omega, by simp, by rw [HP.out]; exact HO.out.alloc _, HB1.out.alloc hbr _⟩
        case measure => simp [intOf]; omega
      · by_cases hk2 : kn = 2
        · subst hk2
          have HP : Hid ((L.take (k + 1)).filter plainT = (L.take k).filter plainT) := Lib.hid (by rw [HFIL.out, HPT.out]; rfl)
          clear hk1
          go_wp2
          refine wp_loop_rounds 2 ?_
          rw [rounds_succ]
          go_wp2
          rw [rounds_succ]
          go_wp2
          go_roundw
          case rel => exact ⟨k + 1, by omega, by simp, by rw [HP.out]; exact HO.out.alloc _, HB1.out.alloc hbr _⟩
          case measure => simp [intOf]; omega
        · have HP : Hid ((L.take (k + 1)).filter plainT = (L.take k).filter plainT ++ [t]) := Lib.hid (by rw [HFIL.out, HPT.out, if_pos (by simp [hk1, hk2])])
          have q1 : (kn == 1) = false := by simpa using hk1
          have q2 : (kn == 2) = false := by simpa using hk2
          clear hk1 hk2
          go_wp2
          refine wp_loop_rounds 3 ?_
          rw [rounds_succ]
          go_wp2
          rw [rounds_succ]
          go_wp2
          rw [rounds_succ]
          have HONE : Hid (∀ u ∈ [Value.int .i64 kn, .string U, .string G], u.oneCell' = true) := Lib.hid (by intro u hu; simp at hu; rcases hu with rfl | rfl | rfl <;> rfl)
          have HOA : Hid ((wr.alloc (.cells #[.int .i64 kn, .string U, .string G] 30)).ownsRow w.heap.size 30 3 u5 ((L.take k).filter plainT).length (cellsL ((L.take k).filter plainT))) := Lib.hid (HO.out.alloc _)
          have hfl : ((L.take k).filter plainT).length ≤ k := by have := List.length_filter_le plainT (L.take k); rw [List.length_take] at this; omega
          obtain ⟨fl, hfle⟩ : ∃ fl, fl = ((L.take k).filter plainT).length := ⟨_, rfl⟩
          rw [← hfle] at hfl HOA
          have HFE := Lib.hid hfle
          have HLEN : Hid (fl + 1 ≤ maxLen ∧ (fl + 1) * 40 ≤ 140737488355328) := Lib.hid ⟨by unfold maxLen; omega, by omega⟩
          have HBB : Hid (Below w.heap.size w (wr.alloc (.cells #[.int .i64 kn, .string U, .string G] 30))) := Lib.hid (HB1.out.alloc hbr _)
          clear hfle
          go_wp2_with (first
            | (go_at_call 28; refine (own_c kn U G hUs hGs _).mono ?_; rintro e w2 ⟨rfl, hb2⟩; have HO2 := Lib.hid (ownL_kept (HOA.out) hb2); have HB2 := Lib.hid (HBB.out.trans (hb2.mono HBB.out.size)); have HO3 := Lib.hid (HO2.out.alloc (.cells #[.int .i64 kn, .string U, .string G] 30)); have HNW := Lib.hid (World.news_of_block (World.alloc_heap_new w2 (.cells #[.int .i64 kn, .string U, .string G] 30))); have HB3 := Lib.hid (HB2.out.alloc HB2.out.size (.cells #[.int .i64 kn, .string U, .string G] 30)); clear hb2)
            | (at_builtin; refine wpList_append_lies _ rfl (.tmp 27) (.tmp 30) 22 rfl w.heap.size 30 i0 (.agg #[.int .i64 0, .string ⟨#[]⟩, .string ⟨#[]⟩]) 3 40 Tryd.underlying22 hi hz0 hz1 hz2 rfl (by decide) u5 fl (cellsL ((L.take k).filter plainT)) rfl HO3.out ⟨w2.heap.size, 0, none⟩ 1 1 [.int .i64 kn, .string U, .string G] rfl rfl HNW.out HONE.out (by decide) HLEN.out.1 HLEN.out.2 HB3.out.size _ rfl ?_; intro g3 cap3 w4 hown4 hgrow4 _ _; have HO4 := Lib.hid hown4; have HB4 := Lib.hid (HB3.out.grown hgrow4 HB3.out.size (fun j ej => (HO3.out.lt j ej).1)); clear hown4 hgrow4))
          go_roundw
          case rel =>
            refine ⟨k + 1, by omega, by simp, ?_, HB4.out⟩
            rw [HP.out]
            show World.ownsRow _ _ _ _ _ _ _
            rw [cellsL_snoc, HTL.out, List.length_append, List.length_singleton, ← HFE.out]
            exact HO4.out
          case measure => simp [intOf]; omega
    · obtain rfl : k = n := by omega
      have HP : Hid ((L.take k).filter plainT = L.filter plainT) := Lib.hid (by rw [HN.out, List.take_length])
      have HLN : Hid ((L.filter plainT).length ≤ maxLen) := Lib.hid (by have := List.length_filter_le plainT L; have := HN.out; unfold maxLen; omega)
      go_wp2
      try rw [Exit.noGoto_ret]
      go_ret
      refine ⟨_, rfl, ?_, HB1.out⟩
      have := HO.out
      rw [HP.out] at this
      exact OwnL.tl HLN.out this

/-- Plain(l). -/
theorem plain_c (v : Value) (L : List Tk) (w : World) (hL : TL w v L) (hl : L.length ≤ 10000) (hS : Small L) :
    Calls Tryd.prog 14 #[v] w fun e W' => ∃ v', e = .returned v' ∧ TL W' v' (L.filter plainT) ∧ Below w.heap.size w W' := by
  have hb0 : Below w.heap.size w (w.alloc (.cells #[.int .i64 1, .int .i64 2] 3)) := (Below.refl _ w).alloc (Nat.le_refl _) _
  have hr : Row (w.alloc (.cells #[.int .i64 1, .int .i64 2] 3)) w.heap.size 3 #[.int .i64 1, .int .i64 2] := Row.new _ _ _
  have HW := Lib.hid (without_c v L w.heap.size _ (hL.below hb0) hl hS (by rw [hr.cell]; rfl) (by rw [hr.cell]; rfl) hr.lt)
  have HB0 := Lib.hid hb0
  obtain ⟨a0, c0, rfl, _, _⟩ := hL.form
  clear hL hb0 hr
  go_enter Tryd.func14, Tryd.ntmps14
  go_wp2_with (go_at_call 23; refine HW.out.mono ?_; rintro e w1 ⟨v', rfl, hv1, hb1⟩; have HV1 := Lib.hid hv1; have HB1 := Lib.hid hb1; clear hv1 hb1)
  go_ret
  exact ⟨v', rfl, HV1.out, HB0.out.trans (HB1.out.mono (by simp))⟩
end Go.Proofs.YthnnjogkomhmfaaDoor.Ti
