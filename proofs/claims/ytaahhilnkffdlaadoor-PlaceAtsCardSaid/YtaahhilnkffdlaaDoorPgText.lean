/- The line of a number. -/
import Derived.Test.YtaahhilnkffdlaaDoorPgLines
import Derived.Test.YtaahhilnkffdlaaDoorPgErr
import Derived.Test.YtaahhilnkffdlaaDoorDet
import Derived.Test.YtaahhilnkffdlaaDoorPgRow
namespace Go.Proofs.YtaahhilnkffdlaaDoor
open Go Go.RowKit Go.Shelf
attribute [local go_sem] Oper.semAt_some

/-- t.lines(): the receiver is boxed; the function value captures the box. -/
theorem lines_in (n : Nat) (s : ByteArray) (w : World) :
    CallsIn Fence.wide n Tryd.prog 32 #[.agg #[.string s]] w fun e w' => e = .returned (.func (.func 45) #[] #[.pointer (some ⟨w.heap.size, 0, none⟩)]) ∧ w' = w.alloc (.cells #[.string s] 46) := by
  refine callsIn_of_wp Tryd.func32 rfl trivial ?_ rfl
  simp only [Tryd.ntmps32, List.size_toArray, List.length_cons, List.length_nil, Nat.reduceAdd, Nat.reduceSub, Array.replicate_succ, Array.replicate_zero, List.push_toArray, List.append_toArray, List.nil_append, List.cons_append]
  gi_wp2
  go_ret
  exact ⟨rfl, rfl⟩

/-- t.lines() hands back a value that goes through all lines, or through the first k of them. -/
theorem lines_stops (n : Nat) (hn : 1 ≤ n) (Bt n₀ : Nat) (s : ByteArray) (hs : s.size ≤ 600) (w : World) (hBt : Bt < w.heap.size) (cBt : w.cell? ⟨Bt, 0, none⟩ = some (.string s)) :
    SeqStopsK Fence.wide n Tryd.prog 45 #[.pointer (some ⟨Bt, 0, none⟩)] (encL s.data.toList) (KeepB n₀ Bt) (fun ys : List (Ix (nlines s.data.toList)) => ys.map (·.1) = List.range (nlines s.data.toList))
      (fun pre => ∃ k, k ≤ nlines s.data.toList ∧ pre.map (·.1) = List.range k) (nlines s.data.toList) w := fun l J Jx W hW _ _ hY h0 =>
  lines1_in n hn l Bt n₀ s hs J Jx hY W ((hW.cell (p := ⟨Bt, 0, none⟩) hBt).trans cBt) h0

/-- What text.line tells. -/
def lineOut (T : List UInt8) (n : Int) : Value :=
  if 0 ≤ n ∧ n < (nlines T : Int) then .tuple #[.agg #[.int .i64 ((lineAt T n.toNat : Nat) : Int), .int .i64 ((lineEnd T n.toNat : Nat) : Int)], .nilIface]
  else .tuple #[.agg #[.int .i64 0, .int .i64 0], faultV 20 wordsP]
theorem lineOut_ok {T : List UInt8} {n : Int} {k : Nat} (h : (k : Int) = n) (hk : k < nlines T) : lineOut T n = .tuple #[.agg #[.int .i64 ((lineAt T k : Nat) : Int), .int .i64 ((lineEnd T k : Nat) : Int)], .nilIface] := by
  subst h
  unfold lineOut
  rw [if_pos ⟨by omega, by omega⟩]
  rfl
theorem lineOut_no {T : List UInt8} {n : Int} (h : ∀ k, k < nlines T → (k : Int) ≠ n) : lineOut T n = .tuple #[.agg #[.int .i64 0, .int .i64 0], faultV 20 wordsP] := by
  unfold lineOut
  refine if_neg (fun ⟨h1, h2⟩ => h n.toNat (by omega) (by omega))

set_option maxRecDepth 100000 in
set_option maxHeartbeats 4000000 in
/-- t.line(n). -/
theorem line_c (s : ByteArray) (hs : s.size ≤ 600) (n : Int) (w : World) :
    Calls Tryd.prog 23 #[.agg #[.string s], .int .i64 n] w fun e W' => e = .returned (lineOut s.data.toList n) ∧ Below w.heap.size w W' := by
  refine (callsIn_wide (n := 5)).1 ?_
  refine callsIn_of_wp_marks Tryd.func23 rfl trivial ?_ rfl
  simp only [Tryd.ntmps23, List.size_toArray, List.length_cons, List.length_nil, Nat.reduceAdd, Nat.reduceSub, Array.replicate_succ, Array.replicate_zero, List.push_toArray, List.append_toArray, List.nil_append, List.cons_append]
  gi_wp2_with (refine ⟨trivial, ?_⟩; gi_at_call 32; refine (lines_in _ _ _).mono ?_; rintro e w' ⟨rfl, rfl⟩)
  obtain ⟨h, hh⟩ : ∃ h, h = w.heap.size := ⟨_, rfl⟩
  have r1 : Row ((((((w.alloc (.cells #[.string s] 46)).alloc (.cells #[.int .i64 n] 3)).alloc (.cells #[.int .i64 0, .int .i64 0] 41)).alloc (.cells #[.nilIface] 43)).alloc (.cells #[.string s] 46))) (w.heap.size + 1) 3 #[.int .i64 n] := (((Row.at _ _ _ _ (by simp)).alloc _).alloc _).alloc _
  have r2 : Row ((((((w.alloc (.cells #[.string s] 46)).alloc (.cells #[.int .i64 n] 3)).alloc (.cells #[.int .i64 0, .int .i64 0] 41)).alloc (.cells #[.nilIface] 43)).alloc (.cells #[.string s] 46))) (w.heap.size + 1 + 1) 41 #[.int .i64 0, .int .i64 0] := ((Row.at _ _ _ _ (by simp)).alloc _).alloc _
  have r3 : Row ((((((w.alloc (.cells #[.string s] 46)).alloc (.cells #[.int .i64 n] 3)).alloc (.cells #[.int .i64 0, .int .i64 0] 41)).alloc (.cells #[.nilIface] 43)).alloc (.cells #[.string s] 46))) (w.heap.size + 1 + 1 + 1) 43 #[.nilIface] := (Row.at _ _ _ _ (by simp)).alloc _
  have r4 : Row ((((((w.alloc (.cells #[.string s] 46)).alloc (.cells #[.int .i64 n] 3)).alloc (.cells #[.int .i64 0, .int .i64 0] 41)).alloc (.cells #[.nilIface] 43)).alloc (.cells #[.string s] 46))) (w.heap.size + 1 + 1 + 1 + 1) 46 #[.string s] := Row.at _ _ _ _ (by simp)
  have hB0 : Below w.heap.size w ((((((w.alloc (.cells #[.string s] 46)).alloc (.cells #[.int .i64 n] 3)).alloc (.cells #[.int .i64 0, .int .i64 0] 41)).alloc (.cells #[.nilIface] 43)).alloc (.cells #[.string s] 46))) := (((((Below.refl _ w).alloc (Nat.le_refl _) _).alloc (by simp) _).alloc (by simp; omega) _).alloc (by simp; omega) _).alloc (by simp; omega) _
  obtain ⟨W0, hW0⟩ : ∃ W0, ((((((w.alloc (.cells #[.string s] 46)).alloc (.cells #[.int .i64 n] 3)).alloc (.cells #[.int .i64 0, .int .i64 0] 41)).alloc (.cells #[.nilIface] 43)).alloc (.cells #[.string s] 46))) = W0 := ⟨_, rfl⟩
  have hsz : W0.heap.size = w.heap.size + 5 := by rw [← hW0]; simp
  rw [hW0] at r1 r2 r3 r4 hB0 ⊢
  clear hW0
  rw [← hh] at r1 r2 r3 r4 hB0 hsz ⊢
  have HH := Lib.hid hh
  have HS := Lib.hid hsz
  have hsz1 : h + 5 ≤ W0.heap.size := by omega
  clear hh hsz
  refine wpIn_rangeFunc_ownH rfl (by omega) (gf := 45) (lb := #[.pointer (some ⟨h + 1 + 1 + 1 + 1, 0, none⟩)]) rfl trivial (enters_of Tryd.func45 (by kernel_rfl) rfl)
    (lines_stops 4 (by omega) (h + 1 + 1 + 1 + 1) h s hs W0 (by omega) (by rw [r4.cell]; rfl)) keepB_t (keepB_b (by omega) (by omega)) (Below.refl _ _) (fun _ => rfl)
    (fun pre W => (Row W (h + 1) 3 #[.int .i64 n] ∧ Row W (h + 1 + 1) 41 #[.int .i64 0, .int .i64 0] ∧ Row W (h + 1 + 1 + 1) 43 #[.nilIface] ∧ (∀ x ∈ pre, (x.1 : Int) ≠ n) ∧ h + 5 ≤ W.heap.size) ∧ Below h w W)
    (fun c pre W => (c = .ret ∧ ∃ x : Ix (nlines s.data.toList), (x.1 : Int) = n ∧ Row W (h + 1 + 1) 41 #[.int .i64 ((lineAt s.data.toList x.1 : Nat) : Int), .int .i64 ((lineEnd s.data.toList x.1 : Nat) : Int)] ∧ Row W (h + 1 + 1 + 1) 43 #[.nilIface]) ∧ Below h w W)
    (OwnFrom.and (Own.from (fun s X Y row hs hg hr => ⟨hs.1.kept hg hr, hs.2.1.kept hg hr, hs.2.2.1.kept hg hr, hs.2.2.2.1, Nat.le_trans hs.2.2.2.2 hg.size⟩) _) (ownFrom_below (Nat.le_of_eq HH.out) (by omega)))
    (fun c => OwnFrom.and (Own.from (fun s X Y row hs hg hr => by obtain ⟨h0, x, h1, h2, h3⟩ := hs; exact ⟨h0, x, h1, h2.kept hg hr, h3.kept hg hr⟩) _) (ownFrom_below (Nat.le_of_eq HH.out) (by omega)))
    ⟨⟨r1, r2, r3, (fun x hx => by cases hx), by omega⟩, hB0⟩
    (fun x a' W => ∃ Bx, h + 5 ≤ Bx ∧ Row W Bx 41 #[.int .i64 ((lineAt s.data.toList x.1 : Nat) : Int), .int .i64 ((lineEnd s.data.toList x.1 : Nat) : Int)] ∧ a' = { tmps := #[.agg #[.string s], .int .i64 n, .pointer (some ⟨h, 0, none⟩), .pointer (some ⟨h + 1, 0, none⟩), .pointer (some ⟨h + 1 + 1, 0, none⟩), .pointer (some ⟨h + 1 + 1 + 1, 0, none⟩), .int .i64 ((x.1 : Nat) : Int), .pointer (some ⟨Bx, 0, none⟩), .agg #[.string s], .func (.func 45) #[] #[.pointer (some ⟨h + 1 + 1 + 1 + 1, 0, none⟩)], .int .i64 ((x.1 : Nat) : Int), .agg #[.int .i64 ((lineAt s.data.toList x.1 : Nat) : Int), .int .i64 ((lineEnd s.data.toList x.1 : Nat) : Int)], undef, undef, undef, undef, undef, undef], defers := [] })
    (fun x a' _ X Y row hs hg hr => by obtain ⟨Bx, h1, h2, h3⟩ := hs; exact ⟨Bx, h1, h2.kept hg (fun r e => (hr r e).2), h3⟩)
    ?assign ?body ?done ?stop
  case assign =>
    rintro l pre x W K ⟨⟨a1, a2, a3, a4, a5⟩, hB1⟩ hK
    dsimp only [encL]
    gi_wp2
    exact hK _ _ ((KeepsOthers.alloc _ _).from _) ⟨(Below.refl _ W).alloc (by omega) _, Below.heap_alloc W _ _ (by omega)⟩ ⟨⟨a1.alloc _, a2.alloc _, a3.alloc _, a4, by rw [World.size_alloc]; omega⟩, hB1.alloc (by omega) _⟩ ⟨W.heap.size, a5, Row.new W _ _, rfl⟩
  case body =>
    rintro l pre x a' W hl ⟨r, hr⟩ ⟨⟨a1, a2, a3, a4, a5⟩, hB1⟩ ⟨Bx, hBx, bX, rfl⟩ hlt
    have c1 := a1.cell 0
    have c2 := a2.cell 0
    have c3 := a2.cell 1
    have c4 := a3.cell 0
    have c5 := bX.cell 0
    have c6 := bX.cell 1
    have f2 := a2.frozen 0
    have f3 := a2.frozen 1
    have f4 := a3.frozen 0
    simp at c1 c2 c3 c4 c5 c6
    have H4 := Lib.hid a4
    clear a4 hr
    by_cases hx : (x.1 : Int) = n
    · have t1 : ((x.1 : Int) == n) = true := beq_iff_eq.2 hx
      have HX := Lib.hid hx
      clear hx
      gi_wp2
      refine ⟨(((KeepsOthers.setCell _ _ _).trans (KeepsOthers.setCell _ _ _)).trans (KeepsOthers.setCell _ _ _)).from _, ⟨⟨rfl, x, HX.out, ?_, ?_⟩, ?_⟩⟩
      · exact ((a2.set 0 _).set 1 _).other (by omega) _
      · exact ((a3.other (by omega) _).other (by omega) _).set 0 _
      · exact ((hB1.setCell (by dsimp only; omega) _).setCell (by dsimp only; omega) _).setCell (by dsimp only; omega) _
    · have t1 : ((x.1 : Int) == n) = false := beq_eq_false_iff_ne.2 hx
      have HX := Lib.hid hx
      clear hx
      gi_wp2
      refine ⟨KeepsFrom.refl _ _, KeepB.refl _ _ _, ⟨a1, a2, a3, fun y hy => ?_, a5⟩, hB1⟩
      rcases List.mem_append.1 hy with h1 | h1
      · exact H4.out y h1
      · rw [List.mem_singleton.1 h1]; exact HX.out
  case done =>
    rintro D zs W hD hz ⟨⟨a1, a2, a3, a4, a5⟩, hB1⟩ hK
    have hall : ∀ k, k < nlines s.data.toList → (k : Int) ≠ n := fun k hk => by
      have hm : k ∈ zs.map (·.1) := by rw [hz]; exact List.mem_range.2 hk
      obtain ⟨y, hy, rfl⟩ := List.mem_map.1 hm
      exact a4 y hy
    have HL := Lib.hid (lineOut_no hall)
    clear hall hz a4
    have c2 := a2.cell 0
    have c3 := a2.cell 1
    have c4 := a3.cell 0
    have f2 := a2.frozen 0
    have f3 := a2.frozen 1
    have f4 := a3.frozen 0
    simp at c2 c3 c4
    gi_wp2_with (refine ⟨trivial, ?_⟩; gi_at_call 38; refine (callsIn_wide.2 (noPlace_c _)).mono ?_; rintro e w' ⟨rfl, rfl⟩)
    have hK1 := ((((KeepsOthers.setCell W ⟨h + 1 + 1, 0, none⟩ (.int .i64 0)).trans (KeepsOthers.setCell _ ⟨h + 1 + 1, 1, none⟩ (.int .i64 0))).trans (KeepsOthers.setCell _ ⟨h + 1 + 1 + 1, 0, none⟩ (faultV 20 wordsP))).same D _ hK rfl)
    have b2 := ((a2.set 0 (.int .i64 0)).set 1 (.int .i64 0)).other (show h + 1 + 1 ≠ h + 1 + 1 + 1 by omega) (i := 0) (faultV 20 wordsP)
    have b3 := ((a3.other (show h + 1 + 1 + 1 ≠ h + 1 + 1 by omega) (i := 0) (.int .i64 0)).other (show h + 1 + 1 + 1 ≠ h + 1 + 1 by omega) (i := 1) (.int .i64 0)).set 0 (faultV 20 wordsP)
    have hB2 : Below h w _ := ((hB1.setCell (p := ⟨h + 1 + 1, 0, none⟩) (by dsimp only; omega) (.int .i64 0)).setCell (p := ⟨h + 1 + 1, 1, none⟩) (by dsimp only; omega) (.int .i64 0)).setCell (p := ⟨h + 1 + 1 + 1, 0, none⟩) (by dsimp only; omega) (faultV 20 wordsP)
    refine ⟨by simp, .inl ⟨_, _, rfl, run_takeDeferred hK1, ?_⟩⟩
    obtain ⟨V, hV⟩ : ∃ V, V = (((W.setCell ⟨h + 1 + 1, 0, none⟩ (.int .i64 0)).setCell ⟨h + 1 + 1, 1, none⟩ (.int .i64 0)).setCell ⟨h + 1 + 1 + 1, 0, none⟩ (faultV 20 wordsP)) := ⟨_, rfl⟩
    rw [← hV] at hK1 b2 b3 hB2 ⊢
    refine ⟨.tuple #[.agg #[.int .i64 0, .int .i64 0], faultV 20 wordsP], ?_, (congrArg Ending.returned HL.out).symm, ?_⟩
    · have g2 := (b2.kept (grownBy_putObj' V D (.deferred none)) (fun r e => by cases e; exact ⟨_, hK1, rfl⟩))
      have g3 := (b3.kept (grownBy_putObj' V D (.deferred none)) (fun r e => by cases e; exact ⟨_, hK1, rfl⟩))
      have d2 := g2.cell 0
      have d3 := g2.cell 1
      have d4 := g3.cell 0
      simp at d2 d3 d4
      simp [results, Tryd.f23, go_sem, d2, d3, d4]
    · rw [← HH.out]
      exact hB2.trans (belowK_b (w := w) (Nat.le_of_eq HH.out) V D _ _ (by have := HH.out; omega) hK1 rfl rfl)
  case stop =>
    rintro D c pre W hD hz ⟨⟨rfl, x, hx, a2, a3⟩, hB1⟩ hK
    have HL := Lib.hid (lineOut_ok hx x.2)
    clear hx
    have c2 := a2.cell 0
    have c3 := a2.cell 1
    have c4 := a3.cell 0
    simp at c2 c3 c4
    gi_wp2
    refine ⟨by simp, .inl ⟨_, _, rfl, run_takeDeferred hK, ?_⟩⟩
    refine ⟨.tuple #[.agg #[.int .i64 ((lineAt s.data.toList x.1 : Nat) : Int), .int .i64 ((lineEnd s.data.toList x.1 : Nat) : Int)], .nilIface], ?_, (congrArg Ending.returned HL.out).symm, ?_⟩
    · have g2 := (a2.kept (grownBy_putObj' W D (.deferred none)) (fun r e => by cases e; exact ⟨_, hK, rfl⟩))
      have g3 := (a3.kept (grownBy_putObj' W D (.deferred none)) (fun r e => by cases e; exact ⟨_, hK, rfl⟩))
      have d2 := g2.cell 0
      have d3 := g2.cell 1
      have d4 := g3.cell 0
      simp at d2 d3 d4
      simp [results, Tryd.f23, go_sem, d2, d3, d4]
    · rw [← HH.out]
      exact hB1.trans (belowK_b (w := w) (Nat.le_of_eq HH.out) W D _ _ (by have := HH.out; omega) hK rfl rfl)
end Go.Proofs.YtaahhilnkffdlaaDoor
