/- The line that a place is in. -/
import Derived.Test.YtaahhilnkffdlaaDoorPgText
namespace Go.Proofs.YtaahhilnkffdlaaDoor
open Go Go.RowKit Go.Shelf
attribute [local go_sem] Oper.semAt_some

/-- What text.holding tells of a place. -/
def Holding (T : List UInt8) (at_ : Nat) (v : Value) : Prop :=
  (∃ k, k < nlines T ∧ at_ ≤ lineEnd T k ∧ (∀ q, q < k → lineEnd T q < at_) ∧ v = .tuple #[.int .i64 (k : Int), .agg #[.int .i64 ((lineAt T k : Nat) : Int), .int .i64 ((lineEnd T k : Nat) : Int)], .nilIface]) ∨
  ((∀ k, k < nlines T → lineEnd T k < at_) ∧ v = .tuple #[.int .i64 0, .agg #[.int .i64 0, .int .i64 0], faultV 20 wordsP])

set_option maxRecDepth 100000 in
set_option maxHeartbeats 4000000 in
theorem holding_neg (s : ByteArray) (n : Int) (hn : n < 0) (w : World) :
    Calls Tryd.prog 35 #[.agg #[.string s], .int .i64 n] w fun e W' => e = .returned (.tuple #[.int .i64 0, .agg #[.int .i64 0, .int .i64 0], faultV 20 wordsP]) ∧ Below w.heap.size w W' := by
  have hB : Below w.heap.size w (((((w.alloc (.cells #[.string s] 46)).alloc (.cells #[.int .i64 n] 3)).alloc (.cells #[.int .i64 0] 3)).alloc (.cells #[.int .i64 0, .int .i64 0] 41)).alloc (.cells #[faultV 20 wordsP] 43)) := (((((Below.refl _ w).alloc (Nat.le_refl _) _).alloc (by simp) _).alloc (by simp; omega) _).alloc (by simp; omega) _).alloc (by simp; omega) _
  have HB := Lib.hid hB
  clear hB
  go_enter Tryd.func35, Tryd.ntmps35
  go_wp2_with (go_at_call 38; refine (noPlace_c _).mono ?_; rintro e w' ⟨rfl, rfl⟩)
  refine bodyPost_ret (v := .tuple #[.int .i64 0, .agg #[.int .i64 0, .int .i64 0], faultV 20 wordsP]) (by simp [results, Tryd.f35, go_sem]) rfl ⟨rfl, HB.out⟩

set_option maxRecDepth 100000 in
set_option maxHeartbeats 4000000 in
/-- t.holding(at), at no less than 0. -/
theorem holding_c (s : ByteArray) (hs : s.size ≤ 600) (at_ : Nat) (w : World) :
    Calls Tryd.prog 35 #[.agg #[.string s], .int .i64 (at_ : Int)] w fun e W' => (∃ v, e = .returned v ∧ Holding s.data.toList at_ v) ∧ Below w.heap.size w W' := by
  refine (callsIn_wide (n := 5)).1 ?_
  refine callsIn_of_wp_marks Tryd.func35 rfl trivial ?_ rfl
  simp only [Tryd.ntmps35, List.size_toArray, List.length_cons, List.length_nil, Nat.reduceAdd, Nat.reduceSub, Array.replicate_succ, Array.replicate_zero, List.push_toArray, List.append_toArray, List.nil_append, List.cons_append]
  gi_wp2_with (refine ⟨trivial, ?_⟩; gi_at_call 32; refine (lines_in _ _ _).mono ?_; rintro e w' ⟨rfl, rfl⟩)
  obtain ⟨h, hh⟩ : ∃ h, h = w.heap.size := ⟨_, rfl⟩
  have r1 : Row ((((((w.alloc (.cells #[.string s] 46)).alloc (.cells #[.int .i64 (at_ : Int)] 3)).alloc (.cells #[.int .i64 0] 3)).alloc (.cells #[.int .i64 0, .int .i64 0] 41)).alloc (.cells #[.nilIface] 43)).alloc (.cells #[.string s] 46)) (w.heap.size + 1) 3 #[.int .i64 (at_ : Int)] := ((((Row.at _ _ _ _ (by simp)).alloc _).alloc _).alloc _).alloc _
  have r2 : Row ((((((w.alloc (.cells #[.string s] 46)).alloc (.cells #[.int .i64 (at_ : Int)] 3)).alloc (.cells #[.int .i64 0] 3)).alloc (.cells #[.int .i64 0, .int .i64 0] 41)).alloc (.cells #[.nilIface] 43)).alloc (.cells #[.string s] 46)) (w.heap.size + 1 + 1) 3 #[.int .i64 0] := (((Row.at _ _ _ _ (by simp)).alloc _).alloc _).alloc _
  have r3 : Row ((((((w.alloc (.cells #[.string s] 46)).alloc (.cells #[.int .i64 (at_ : Int)] 3)).alloc (.cells #[.int .i64 0] 3)).alloc (.cells #[.int .i64 0, .int .i64 0] 41)).alloc (.cells #[.nilIface] 43)).alloc (.cells #[.string s] 46)) (w.heap.size + 1 + 1 + 1) 41 #[.int .i64 0, .int .i64 0] := ((Row.at _ _ _ _ (by simp)).alloc _).alloc _
  have r4 : Row ((((((w.alloc (.cells #[.string s] 46)).alloc (.cells #[.int .i64 (at_ : Int)] 3)).alloc (.cells #[.int .i64 0] 3)).alloc (.cells #[.int .i64 0, .int .i64 0] 41)).alloc (.cells #[.nilIface] 43)).alloc (.cells #[.string s] 46)) (w.heap.size + 1 + 1 + 1 + 1) 43 #[.nilIface] := (Row.at _ _ _ _ (by simp)).alloc _
  have r5 : Row ((((((w.alloc (.cells #[.string s] 46)).alloc (.cells #[.int .i64 (at_ : Int)] 3)).alloc (.cells #[.int .i64 0] 3)).alloc (.cells #[.int .i64 0, .int .i64 0] 41)).alloc (.cells #[.nilIface] 43)).alloc (.cells #[.string s] 46)) (w.heap.size + 1 + 1 + 1 + 1 + 1) 46 #[.string s] := Row.at _ _ _ _ (by simp)
  have hB0 : Below w.heap.size w ((((((w.alloc (.cells #[.string s] 46)).alloc (.cells #[.int .i64 (at_ : Int)] 3)).alloc (.cells #[.int .i64 0] 3)).alloc (.cells #[.int .i64 0, .int .i64 0] 41)).alloc (.cells #[.nilIface] 43)).alloc (.cells #[.string s] 46)) := ((((((Below.refl _ w).alloc (Nat.le_refl _) _).alloc (by simp) _).alloc (by simp; omega) _).alloc (by simp; omega) _).alloc (by simp; omega) _).alloc (by simp; omega) _
  obtain ⟨W0, hW0⟩ : ∃ W0, ((((((w.alloc (.cells #[.string s] 46)).alloc (.cells #[.int .i64 (at_ : Int)] 3)).alloc (.cells #[.int .i64 0] 3)).alloc (.cells #[.int .i64 0, .int .i64 0] 41)).alloc (.cells #[.nilIface] 43)).alloc (.cells #[.string s] 46)) = W0 := ⟨_, rfl⟩
  have hsz : W0.heap.size = w.heap.size + 6 := by rw [← hW0]; simp
  rw [hW0] at r1 r2 r3 r4 r5 hB0 ⊢
  clear hW0
  rw [← hh] at r1 r2 r3 r4 r5 hB0 hsz ⊢
  have HH := Lib.hid hh
  have hsz1 : h + 6 ≤ W0.heap.size := by omega
  clear hh hsz
  refine wpIn_rangeFunc_ownH rfl (by omega) (gf := 45) (lb := #[.pointer (some ⟨h + 1 + 1 + 1 + 1 + 1, 0, none⟩)]) rfl trivial (enters_of Tryd.func45 (by kernel_rfl) rfl)
    (lines_stops 4 (by omega) (h + 1 + 1 + 1 + 1 + 1) h s hs W0 (by omega) (by rw [r5.cell]; rfl)) keepB_t (keepB_b (by omega) (by omega)) (Below.refl _ _) (fun _ => rfl)
    (fun pre W => (Row W (h + 1) 3 #[.int .i64 (at_ : Int)] ∧ Row W (h + 1 + 1) 3 #[.int .i64 0] ∧ Row W (h + 1 + 1 + 1) 41 #[.int .i64 0, .int .i64 0] ∧ Row W (h + 1 + 1 + 1 + 1) 43 #[.nilIface] ∧ (∀ x ∈ pre, lineEnd s.data.toList x.1 < at_) ∧ h + 6 ≤ W.heap.size) ∧ Below h w W)
    (fun c pre W => (c = .ret ∧ ∃ x : Ix (nlines s.data.toList), at_ ≤ lineEnd s.data.toList x.1 ∧ (∃ pre', pre = pre' ++ [x] ∧ ∀ y ∈ pre', lineEnd s.data.toList y.1 < at_) ∧ Row W (h + 1 + 1) 3 #[.int .i64 ((x.1 : Nat) : Int)] ∧ Row W (h + 1 + 1 + 1) 41 #[.int .i64 ((lineAt s.data.toList x.1 : Nat) : Int), .int .i64 ((lineEnd s.data.toList x.1 : Nat) : Int)] ∧ Row W (h + 1 + 1 + 1 + 1) 43 #[.nilIface]) ∧ Below h w W)
    (OwnFrom.and (Own.from (fun s X Y row hs hg hr => ⟨hs.1.kept hg hr, hs.2.1.kept hg hr, hs.2.2.1.kept hg hr, hs.2.2.2.1.kept hg hr, hs.2.2.2.2.1, Nat.le_trans hs.2.2.2.2.2 hg.size⟩) _) (ownFrom_below (Nat.le_of_eq HH.out) (by omega)))
    (fun c => OwnFrom.and (Own.from (fun s X Y row hs hg hr => by obtain ⟨h0, x, h1, h2, h3, h4, h5⟩ := hs; exact ⟨h0, x, h1, h2, h3.kept hg hr, h4.kept hg hr, h5.kept hg hr⟩) _) (ownFrom_below (Nat.le_of_eq HH.out) (by omega)))
    ⟨⟨r1, r2, r3, r4, (fun x hx => by cases hx), by omega⟩, hB0⟩
    (fun x a' W => ∃ Bx, h + 6 ≤ Bx ∧ Row W Bx 41 #[.int .i64 ((lineAt s.data.toList x.1 : Nat) : Int), .int .i64 ((lineEnd s.data.toList x.1 : Nat) : Int)] ∧ a' = { tmps := #[.agg #[.string s], .int .i64 (at_ : Int), .pointer (some ⟨h, 0, none⟩), .pointer (some ⟨h + 1, 0, none⟩), .pointer (some ⟨h + 1 + 1, 0, none⟩), .pointer (some ⟨h + 1 + 1 + 1, 0, none⟩), .pointer (some ⟨h + 1 + 1 + 1 + 1, 0, none⟩), .int .i64 ((x.1 : Nat) : Int), .pointer (some ⟨Bx, 0, none⟩), .int .i64 (at_ : Int), .bool false, undef, undef, .agg #[.string s], .func (.func 45) #[] #[.pointer (some ⟨h + 1 + 1 + 1 + 1 + 1, 0, none⟩)], .int .i64 ((x.1 : Nat) : Int), .agg #[.int .i64 ((lineAt s.data.toList x.1 : Nat) : Int), .int .i64 ((lineEnd s.data.toList x.1 : Nat) : Int)], undef, undef, undef, undef, undef, undef, undef, undef], defers := [] })
    (fun x a' _ X Y row hs hg hr => by obtain ⟨Bx, h1, h2, h3⟩ := hs; exact ⟨Bx, h1, h2.kept hg (fun r e => (hr r e).2), h3⟩)
    ?assign ?body ?done ?stop
  case assign =>
    rintro l pre x W K ⟨⟨a1, a2, a3, a4, a5, a6⟩, hB1⟩ hK
    dsimp only [encL]
    gi_wp2
    exact hK _ _ ((KeepsOthers.alloc _ _).from _) ⟨(Below.refl _ W).alloc (by omega) _, Below.heap_alloc W _ _ (by omega)⟩ ⟨⟨a1.alloc _, a2.alloc _, a3.alloc _, a4.alloc _, a5, by rw [World.size_alloc]; omega⟩, hB1.alloc (by omega) _⟩ ⟨W.heap.size, a6, Row.new W _ _, rfl⟩
  case body =>
    rintro l pre x a' W hl ⟨r, hr⟩ ⟨⟨a1, a2, a3, a4, a5, a6⟩, hB1⟩ ⟨Bx, hBx, bX, rfl⟩ hlt
    have c1 := a1.cell 0
    have c2 := a2.cell 0
    have c3 := a3.cell 0
    have c3' := a3.cell 1
    have c4 := a4.cell 0
    have c5 := bX.cell 0
    have c6 := bX.cell 1
    have f2 := a2.frozen 0
    have f3 := a3.frozen 0
    have f3' := a3.frozen 1
    have f4 := a4.frozen 0
    simp at c1 c2 c3 c3' c4 c5 c6
    have H5 := Lib.hid a5
    clear a5 hr
    have hmix : Tryd.prog.follows .mixedOrders = true := by kernel_rfl
    by_cases hx : at_ ≤ lineEnd s.data.toList x.1
    · have t1 : decide ((at_ : Int) ≤ ((lineEnd s.data.toList x.1 : Nat) : Int)) = true := decide_eq_true (by omega)
      have HX := Lib.hid hx
      gi_wp2
      gi_region_with_o (fail)
      all_goals
        gi_wp2
        refine ⟨((((KeepsOthers.setCell _ _ _).trans (KeepsOthers.setCell _ _ _)).trans (KeepsOthers.setCell _ _ _)).trans ((KeepsOthers.setCell _ _ _).trans (KeepsOthers.drew _))).from _, ⟨⟨rfl, x, HX.out, ⟨pre, rfl, H5.out⟩, ?_, ?_, ?_⟩, ?_⟩⟩
        · exact ((((a2.set 0 _).other (by omega) _).other (by omega) _).other (by omega) _).drew
        · exact ((((a3.other (by omega) _).set 0 _).set 1 _).other (by omega) _).drew
        · exact ((((a4.other (by omega) _).other (by omega) _).other (by omega) _).set 0 _).drew
        · exact ((((hB1.setCell (by dsimp only; omega) _).setCell (by dsimp only; omega) _).setCell (by dsimp only; omega) _).setCell (by dsimp only; omega) _).drew
    · have t1 : decide ((at_ : Int) ≤ ((lineEnd s.data.toList x.1 : Nat) : Int)) = false := decide_eq_false (by omega)
      have HX := Lib.hid hx
      gi_wp2
      refine ⟨KeepsFrom.refl _ _, KeepB.refl _ _ _, ⟨a1, a2, a3, a4, fun y hy => ?_, a6⟩, hB1⟩
      rcases List.mem_append.1 hy with h1 | h1
      · exact H5.out y h1
      · rw [List.mem_singleton.1 h1]; omega
  case done =>
    rintro D zs W hD hz ⟨⟨a1, a2, a3, a4, a5, a6⟩, hB1⟩ hK
    have hall : ∀ k, k < nlines s.data.toList → lineEnd s.data.toList k < at_ := fun k hk => by
      have hm : k ∈ zs.map (·.1) := by rw [hz]; exact List.mem_range.2 hk
      obtain ⟨y, hy, rfl⟩ := List.mem_map.1 hm
      exact a5 y hy
    have HL := Lib.hid hall
    clear hall hz a5
    have c2 := a2.cell 0
    have c3 := a3.cell 0
    have c3' := a3.cell 1
    have c4 := a4.cell 0
    have f2 := a2.frozen 0
    have f3 := a3.frozen 0
    have f3' := a3.frozen 1
    have f4 := a4.frozen 0
    simp at c2 c3 c3' c4
    have b2 := (((a2.set 0 (.int .i64 0)).other (show h + 1 + 1 ≠ h + 1 + 1 + 1 by omega) (i := 0) (.int .i64 0)).other (show h + 1 + 1 ≠ h + 1 + 1 + 1 by omega) (i := 1) (.int .i64 0)).other (show h + 1 + 1 ≠ h + 1 + 1 + 1 + 1 by omega) (i := 0) (faultV 20 wordsP)
    have b3 := (((a3.other (show h + 1 + 1 + 1 ≠ h + 1 + 1 by omega) (i := 0) (.int .i64 0)).set 0 (.int .i64 0)).set 1 (.int .i64 0)).other (show h + 1 + 1 + 1 ≠ h + 1 + 1 + 1 + 1 by omega) (i := 0) (faultV 20 wordsP)
    have b4 := (((a4.other (show h + 1 + 1 + 1 + 1 ≠ h + 1 + 1 by omega) (i := 0) (.int .i64 0)).other (show h + 1 + 1 + 1 + 1 ≠ h + 1 + 1 + 1 by omega) (i := 0) (.int .i64 0)).other (show h + 1 + 1 + 1 + 1 ≠ h + 1 + 1 + 1 by omega) (i := 1) (.int .i64 0)).set 0 (faultV 20 wordsP)
    have hK1 := (((((KeepsOthers.setCell W ⟨h + 1 + 1, 0, none⟩ (.int .i64 0)).trans (KeepsOthers.setCell _ ⟨h + 1 + 1 + 1, 0, none⟩ (.int .i64 0))).trans (KeepsOthers.setCell _ ⟨h + 1 + 1 + 1, 1, none⟩ (.int .i64 0))).trans (KeepsOthers.setCell _ ⟨h + 1 + 1 + 1 + 1, 0, none⟩ (faultV 20 wordsP))).same D _ hK rfl)
    have hB2 : Below h w _ := (((hB1.setCell (p := ⟨h + 1 + 1, 0, none⟩) (by dsimp only; omega) (.int .i64 0)).setCell (p := ⟨h + 1 + 1 + 1, 0, none⟩) (by dsimp only; omega) (.int .i64 0)).setCell (p := ⟨h + 1 + 1 + 1, 1, none⟩) (by dsimp only; omega) (.int .i64 0)).setCell (p := ⟨h + 1 + 1 + 1 + 1, 0, none⟩) (by dsimp only; omega) (faultV 20 wordsP)
    gi_wp2_with (refine ⟨trivial, ?_⟩; gi_at_call 38; refine (callsIn_wide.2 (noPlace_c _)).mono ?_; rintro e w' ⟨rfl, rfl⟩)
    refine ⟨by simp, .inl ⟨_, _, rfl, run_takeDeferred hK1, ?_⟩⟩
    obtain ⟨V, hV⟩ : ∃ V, V = ((((W.setCell ⟨h + 1 + 1, 0, none⟩ (.int .i64 0)).setCell ⟨h + 1 + 1 + 1, 0, none⟩ (.int .i64 0)).setCell ⟨h + 1 + 1 + 1, 1, none⟩ (.int .i64 0)).setCell ⟨h + 1 + 1 + 1 + 1, 0, none⟩ (faultV 20 wordsP)) := ⟨_, rfl⟩
    rw [← hV] at hK1 b2 b3 b4 hB2 ⊢
    refine ⟨.tuple #[.int .i64 0, .agg #[.int .i64 0, .int .i64 0], faultV 20 wordsP], ?_, ⟨_, rfl, .inr ⟨HL.out, rfl⟩⟩, ?_⟩
    · have g2 := (b2.kept (grownBy_putObj' V D (.deferred none)) (fun r e => by cases e; exact ⟨_, hK1, rfl⟩))
      have g3 := (b3.kept (grownBy_putObj' V D (.deferred none)) (fun r e => by cases e; exact ⟨_, hK1, rfl⟩))
      have g4 := (b4.kept (grownBy_putObj' V D (.deferred none)) (fun r e => by cases e; exact ⟨_, hK1, rfl⟩))
      have d2 := g2.cell 0
      have d3 := g3.cell 0
      have d3' := g3.cell 1
      have d4 := g4.cell 0
      simp at d2 d3 d3' d4
      simp [results, Tryd.f35, go_sem, d2, d3, d3', d4]
    · rw [← HH.out]
      exact hB2.trans (belowK_b (w := w) (Nat.le_of_eq HH.out) V D _ _ (by have := HH.out; omega) hK1 rfl rfl)
  case stop =>
    rintro D c pre W hD ⟨m, hm1, hz⟩ ⟨⟨rfl, x, hx, ⟨pre', rfl, hp⟩, a2, a3, a4⟩, hB1⟩ hK
    have hin := (inOrder_of hz).1
    obtain ⟨hi1, hi2⟩ := inOrder_snoc.1 hin
    have hlow : ∀ q, q < x.1 → lineEnd s.data.toList q < at_ := fun q hq => by
      have hmem : q ∈ pre'.map (·.1) := by
        rw [show pre'.map (·.1) = List.range pre'.length from hi1]
        exact List.mem_range.2 (by omega)
      obtain ⟨y, hy, rfl⟩ := List.mem_map.1 hmem
      exact hp y hy
    have HL := Lib.hid hlow
    have HX := Lib.hid hx
    clear hlow hin hi1 hi2 hz hp hx hm1
    gi_wp2
    refine ⟨by simp, .inl ⟨_, _, rfl, run_takeDeferred hK, ?_⟩⟩
    refine ⟨.tuple #[.int .i64 ((x.1 : Nat) : Int), .agg #[.int .i64 ((lineAt s.data.toList x.1 : Nat) : Int), .int .i64 ((lineEnd s.data.toList x.1 : Nat) : Int)], .nilIface], ?_, ⟨_, rfl, .inl ⟨x.1, x.2, HX.out, HL.out, rfl⟩⟩, ?_⟩
    · have g2 := (a2.kept (grownBy_putObj' W D (.deferred none)) (fun r e => by cases e; exact ⟨_, hK, rfl⟩))
      have g3 := (a3.kept (grownBy_putObj' W D (.deferred none)) (fun r e => by cases e; exact ⟨_, hK, rfl⟩))
      have g4 := (a4.kept (grownBy_putObj' W D (.deferred none)) (fun r e => by cases e; exact ⟨_, hK, rfl⟩))
      have d2 := g2.cell 0
      have d3 := g3.cell 0
      have d3' := g3.cell 1
      have d4 := g4.cell 0
      simp at d2 d3 d3' d4
      simp [results, Tryd.f35, go_sem, d2, d3, d3', d4]
    · rw [← HH.out]
      exact hB1.trans (belowK_b (w := w) (Nat.le_of_eq HH.out) W D _ _ (by have := HH.out; omega) hK rfl rfl)
end Go.Proofs.YtaahhilnkffdlaaDoor
