/- A line's tokens, in a list. -/
import Derived.Test.YtdgffpcbpilkcaaGreatDoorLxMem
namespace Go.Proofs.YtdgffpcbpilkcaaGreatDoor
open Go Go.RowKit Go.Shelf
attribute [local go_sem] Oper.semAt_some

set_option maxRecDepth 100000 in
set_option maxHeartbeats 4000000 in
/-- AppendSeq(nil, tokens(s)). -/
theorem appendSeq_c (T : List UInt8) (hT : T.length ≤ 10000) (Bs : Nat) (w : World) (hG : LG w) (hBs : Row w Bs 9 #[.string (bs T)]) :
    Calls Tryz.prog 82 #[.slice none 0 0, .func (.func 83) #[] #[.pointer (some ⟨Bs, 0, none⟩)]] w fun e W' => ∃ v, e = .returned v ∧ OwnL W' w.heap.size v (toks st T 0) ∧ Below w.heap.size w W' := by
  obtain ⟨i0, hi, hz0, hz1, hz2⟩ := info_tok
  have hN : nT T ≤ 10000 := Nat.le_trans (toks_len st st_ok T.length T (Nat.le_refl _)) hT
  refine (callsIn_wide (n := 5)).1 ?_
  refine callsIn_of_wp_marks Tryz.func82 rfl trivial ?_ rfl
  simp only [Tryz.ntmps82, List.size_toArray, List.length_cons, List.length_nil, Nat.reduceAdd, Nat.reduceSub, Array.replicate_succ, Array.replicate_zero, List.push_toArray, List.append_toArray, List.nil_append, List.cons_append]
  gi_wp2
  rename_i Q' K hK
  obtain ⟨h, hh⟩ : ∃ h, h = w.heap.size := ⟨_, rfl⟩
  obtain ⟨W0, hW0⟩ : ∃ W0, w.alloc (.cells #[.slice none 0 0] 44) = W0 := ⟨_, rfl⟩
  have r1 : Row W0 w.heap.size 44 #[.slice none 0 0] := by rw [← hW0]; exact Row.new _ _ _
  have hB0 : Below w.heap.size w W0 := by rw [← hW0]; exact (Below.refl _ w).alloc (Nat.le_refl _) _
  have hsz : W0.heap.size = w.heap.size + 1 := by rw [← hW0]; simp
  have hG0 := hG.below hB0
  have hBs0 := hBs.below hB0 hBs.lt
  have hgl := hG.gl.lt
  have hgl1 := hG.lt1
  have hgl2 := hG.lt2
  rw [hW0]
  clear hW0 hBs hG
  rw [← hh] at r1 hB0 hsz hgl hgl1 hgl2 ⊢
  have HH := Lib.hid hh
  have hsz1 : h + 1 ≤ W0.heap.size := by omega
  have HSZ := Lib.hid hsz
  clear hh hsz
  refine wpIn_rangeFunc_ownC (t := 148) rfl (by omega) (gf := 83) (lb := #[.pointer (some ⟨Bs, 0, none⟩)]) rfl trivial (enters_of Tryz.func83 (by kernel_rfl) rfl)
    (tokens_stops 4 (by omega) Bs h T hT W0 hgl hgl1 hgl2 (by omega) hBs0 hG0) KeepT.trans (keepT_b (by omega)) (Below.refl _ _) (fun _ => rfl)
    (fun pre W => (∃ v, Row W h 44 #[v] ∧ W.ownsRow (h + 1) 55 3 v pre.length (cellsL (tksOf T pre)) ∧ h + 1 ≤ W.heap.size) ∧ Below h w W)
    (fun _ _ _ => False)
    (fun p X Y hs hb => by obtain ⟨⟨v, a1, a2, a3⟩, a4⟩ := hs; exact ⟨⟨v, a1.below hb.1 (by omega), ownL_step (by decide) a2 hb, Nat.le_trans a3 hb.1.size⟩, a4.trans (hb.1.mono (by omega))⟩)
    (fun _ _ _ _ hs _ => hs)
    (fun p X l r r' hs hl hX => by obtain ⟨⟨v, a1, a2, a3⟩, a4⟩ := hs; exact ⟨⟨v, (World.putObj_heap_other (by omega)).trans a1, ownL_put a2 hX, by rw [show (X.putObj l _).heap.size = X.heap.size by simp [World.putObj]]; exact a3⟩, below_put a4 (by omega) hX⟩)
    (fun _ _ _ _ _ _ hs _ _ => hs)
    ⟨⟨_, r1, World.ownsRow_nil _ _ _ _, hsz1⟩, hB0⟩
    (fun x a' W => ∃ Bx, h + 1 ≤ Bx ∧ Row W Bx 55 (tokC (tkAt T x.1)) ∧ a' = { tmps := #[.slice none 0 0, .func (.func 83) #[] #[.pointer (some ⟨Bs, 0, none⟩)], .pointer (some ⟨h, 0, none⟩), undef, .slice none 0 0, .pointer (some ⟨Bx, 0, none⟩), .func (.func 83) #[] #[.pointer (some ⟨Bs, 0, none⟩)], tokV (tkAt T x.1), undef, undef, undef, undef, undef], defers := [] })
    (fun x a' _ X Y row hs hg hr => by obtain ⟨Bx, h1, h2, h3⟩ := hs; exact ⟨Bx, h1, h2.kept hg (fun r e => (hr r e).2), h3⟩)
    ?assign ?body ?done ?stop
  case assign =>
    rintro l pre x W K' ⟨⟨v, a1, a2, a6⟩, hB1⟩ hsW hK'
    dsimp only [encK, tokV]
    gi_wp2
    have hst : StepT 148 (h + 1) W (W.alloc (.cells (tokC (tkAt T x.1)) 55)) := ⟨(Below.refl _ W).alloc (by omega) _, fun k o ho _ => (Below.heap_alloc W _ k (Array.getElem?_eq_some_iff.1 ho).1).trans ho⟩
    exact hK' _ _ ((KeepsOthers.alloc _ _).from _) (keepT_alloc (by omega) _) ⟨⟨v, a1.alloc _, ownL_step (by decide) a2 hst, by rw [World.size_alloc]; omega⟩, hB1.alloc (by omega) _⟩ ⟨W.heap.size, a6, Row.new W _ _, rfl⟩
  case body =>
    rintro l pre x a' W hl ⟨r, hr⟩ ⟨⟨v, a1, a2, a6⟩, hB1⟩ ⟨Bx, hBx, bX, rfl⟩ hlt
    have hbx := bX.lt
    have c0 := a1.cell 0
    have f0 := a1.frozen 0
    simp at c0
    obtain ⟨kd, hkd⟩ : ∃ kd : Int, kd = (((tkAt T x.1).kind : Nat) : Int) := ⟨_, rfl⟩
    obtain ⟨U, hU⟩ : ∃ U, U = bs (tkAt T x.1).text := ⟨_, rfl⟩
    obtain ⟨G, hGl⟩ : ∃ G, G = bs (tkAt T x.1).glyph := ⟨_, rfl⟩
    have htc : tokC (tkAt T x.1) = #[.int .i64 kd, .string U, .string G] := by rw [hkd, hU, hGl]; rfl
    have htv : tokV (tkAt T x.1) = .agg #[.int .i64 kd, .string U, .string G] := by rw [hkd, hU, hGl]; rfl
    have htl : tokL (tkAt T x.1) = [.int .i64 kd, .string U, .string G] := by rw [hkd, hU, hGl]; rfl
    rw [htc] at bX
    rw [htv]
    obtain ⟨c1, c2, c3, _, _, _⟩ := tok_cells bX
    have hpl : pre.length + 1 ≤ 10000 := by omega
    have hnews : ∀ (j : Nat) (u : Value), [Value.int .i64 kd, .string U, .string G][j]? = some u → (W.alloc (.cells #[.int .i64 kd, .string U, .string G] 55)).cell? ((⟨W.heap.size, 0, none⟩ : Addr).add j) = some u :=
      World.news_of_block (World.alloc_heap_new W (.cells #[.int .i64 kd, .string U, .string G] 55))
    have hst : StepT 148 (h + 1) W (W.alloc (.cells #[.int .i64 kd, .string U, .string G] 55)) := ⟨(Below.refl _ W).alloc (by omega) _, fun k o ho _ => (Below.heap_alloc W _ k (Array.getElem?_eq_some_iff.1 ho).1).trans ho⟩
    have HNW := Lib.hid hnews
    have HOWN := Lib.hid (ownL_step (by decide) a2 hst)
    have HTL := Lib.hid htl
    have HA1 := Lib.hid a1
    have HA2 := Lib.hid a2
    have HB := Lib.hid hB1
    have HLEN : Hid (pre.length + 1 ≤ maxLen ∧ (pre.length + 1) * 40 ≤ 140737488355328) := Lib.hid ⟨by unfold maxLen; omega, by omega⟩
    have HBASE : Hid (h + 1 ≤ (W.alloc (.cells #[.int .i64 kd, .string U, .string G] 55)).heap.size) := Lib.hid (by rw [World.size_alloc]; omega)
    have HOL := Lib.hid a2.lt
    have hone : ∀ u ∈ [Value.int .i64 kd, .string U, .string G], u.oneCell' = true := by intro u hu; simp at hu; rcases hu with rfl | rfl | rfl <;> rfl
    have HONE := Lib.hid hone
    clear hnews hst htl htc htv hkd hU hGl a1 a2 bX hB1 hr hone
    gi_wp2_with (gi_at_builtin; refine wpListIn_append_own _ rfl (.tmp 8) (.tmp 10) 44 rfl (h + 1) 55 i0 (.agg #[.int .i64 0, .string ⟨#[]⟩, .string ⟨#[]⟩]) 3 40 Tryz.underlying44 hi hz0 hz1 hz2 rfl (by decide) v pre.length (cellsL (tksOf T pre)) rfl HOWN.out ⟨W.heap.size, 0, none⟩ 1 1 [.int .i64 kd, .string U, .string G] rfl rfl HNW.out HONE.out HLEN.out.1 HLEN.out.2 HBASE.out ?_; intro v' w3 how3 hgw3 _; have HO3 := Lib.hid how3; have HG3 := Lib.hid hgw3; have a3 : Row w3 h 44 #[v] := (hgw3.block h (by rw [World.size_alloc]; exact Nat.lt_succ_of_lt HA1.out.lt) (fun e => by have := (HOL.out _ e.symm).1; omega)).trans (HA1.out.alloc _); have HA3 := Lib.hid a3; have c4 := a3.cell 0; have f4 := a3.frozen 0; simp at c4; obtain ⟨g2, cap2, rfl, hg2, hg3⟩ := how3.form (by omega); clear how3 hgw3 a3)
    have hS3 := HG3.out.size
    rw [World.size_alloc] at hS3
    have hb3 : Below h W w3 := ((Below.refl h W).alloc (by omega) _).grown HG3.out (by rw [World.size_alloc]; omega) (fun k e => by have := (HOL.out _ e).1; omega)
    have hkeep : ∀ (k : Nat) (o : Obj), W.heap[k]? = some o → v.ownBlock ≠ some k → k ≠ h → (w3.setCell ⟨h, 0, none⟩ (.slice (some ⟨g2, 0, none⟩) (pre.length + 1) cap2)).heap[k]? = some o := fun k o ho h1 h2 => by
      have hk2 : k < W.heap.size := (Array.getElem?_eq_some_iff.1 ho).1
      rw [Below.heap_setCell w3 _ _ k (by dsimp only; exact h2), HG3.out.block k (by rw [World.size_alloc]; omega) (fun e => h1 e.symm), Below.heap_alloc W _ k hk2]
      exact ho
    have hown : ∀ k, v.ownBlock = some k → ∃ cur, W.heap[k]? = some (.cells cur 55 (0, 0)) := fun k hk => by
      rcases HA2.out.2 with ⟨hv, _⟩ | ⟨g, cap, cur, e1, e2, e3, _⟩
      · rw [hv] at hk; cases hk
      · rw [e1] at hk; cases hk; exact ⟨cur, e3⟩
    refine ⟨⟨by rw [World.size_setCell]; omega, fun k o hk ho hc => hkeep k o ho (fun e => ?_) (by omega)⟩, ⟨hb3.setCell (by dsimp only; omega) _, fun k o ho hs => hkeep k o ho (fun e => ?_) (fun e => ?_)⟩, ⟨.slice (some ⟨g2, 0, none⟩) (pre.length + 1) cap2, ?_, ?_, by rw [World.size_setCell]; omega⟩, (HB.out.trans hb3).setCell (by dsimp only; omega) _⟩
    · obtain ⟨cur, hcur⟩ := hown k e
      rw [hcur] at ho
      cases ho
      cases hc
    · obtain ⟨cur, hcur⟩ := hown k e
      rw [hcur] at ho
      cases ho
      rcases hs with ⟨c, e⟩ | ⟨c, e⟩ | ⟨es, c, e⟩ <;> cases e
    · have h9 := HA1.out
      rw [← e] at h9
      have h10 : some o = some (Obj.cells #[v] 44 (0, 0)) := ho.symm.trans h9
      cases h10
      rcases hs with ⟨c, e⟩ | ⟨c, e⟩ | ⟨es, c, e⟩ <;> cases e
    · exact HA3.out.set 0 _
    · have e1 : cellsL (tksOf T (pre ++ [x])) = cellsL (tksOf T pre) ++ [.int .i64 kd, .string U, .string G] := by
        rw [← HTL.out, ← cellsL_snoc]
        simp [tksOf]
      rw [e1, List.length_append, List.length_singleton]
      refine ⟨HO3.out.1, ?_⟩
      rcases HO3.out.2 with ⟨h0, _⟩ | ⟨g', cap', cur, q1, q2, q3, q4⟩
      · cases h0
      · cases q1
        exact .inr ⟨_, _, cur, rfl, q2, (Below.heap_setCell w3 _ _ _ (by dsimp only; omega)).trans q3, q4⟩
  case done =>
    rintro D zs W hD hz ⟨⟨v, a1, a2, a6⟩, hB1⟩ hKD
    have hlen : zs.length = nT T := by have := congrArg List.length hz; simpa using this
    have hall := tksOf_all hz
    rw [hall, hlen] at a2
    have HA2 := Lib.hid a2
    have HB := Lib.hid hB1
    have c0 := a1.cell 0
    simp at c0
    clear hz hall a2 hB1
    refine hK _ _ ?_
    gi_wp2
    refine ⟨by simp, .inl ⟨_, _, rfl, run_takeDeferred hKD, ?_⟩⟩
    refine ⟨_, results_tmp rfl _ _ _, v, by rfl, ?_, ?_⟩
    · have hq : OwnL W (h + 1) v (toks st T 0) := HA2.out
      rw [← HH.out]
      refine ⟨hq.1, ?_⟩
      rcases hq.2 with hn | ⟨g, cap, cur, e1, e2, e3, e4⟩
      · exact .inl hn
      · refine .inr ⟨g, cap, cur, e1, by omega, ?_, e4⟩
        have hq : Row W g 55 cur := e3
        exact hq.kept (grownBy_putObj' W D (.deferred none)) (fun r e => by cases e; exact ⟨_, hKD, rfl⟩)
    · rw [← HH.out]
      exact HB.out.trans (belowK_b (w := w) (Nat.le_of_eq HH.out) W D _ _ (by have := HH.out; omega) hKD rfl rfl)
  case stop =>
    rintro D c pre W hD _ hf _
    exact hf.elim
end Go.Proofs.YtdgffpcbpilkcaaGreatDoor
