/- place.Lines: where lines begin. -/
import Derived.Test.YtaahhilnkffdlaaDoorPgBegins
namespace Go.Proofs.YtaahhilnkffdlaaDoor
open Go Go.RowKit Go.Shelf
attribute [local go_sem] Oper.semAt_some

theorem own_same {W W' : World} {base : Nat} {v : Value} {L : List Nat} (h : Own W base v L) (hb : ∀ k, v.ownBlock = some k → W'.heap[k]? = W.heap[k]?) : Own W' base v L := by
  refine ⟨h.1, ?_⟩
  rcases h.2 with hn | ⟨g, cap, cur, rfl, hb', hgg, rest⟩
  · exact .inl hn
  · refine .inr ⟨g, cap, cur, rfl, hb', ?_, rest⟩
    rw [hb g rfl]
    exact hgg
theorem own_kept {X Y : World} {row : Option Nat} {base : Nat} {v : Value} {L : List Nat} (h : Own X base v L) (hg : X.grownBy Y row) (hr : ∀ r, row = some r → ∃ o, X.heap[r]? = some o ∧ o.isCells = false) : Own Y base v L := by
  refine h.kept hg ?_
  rcases h.2 with ⟨rfl, _⟩ | ⟨g, cap, cur, rfl, hb', hgg, rest⟩
  · exact .inl rfl
  · right
    intro e
    obtain ⟨o, ho, hc⟩ := hr g e.symm
    rw [hgg] at ho; cases ho; cases hc
theorem own_cells {W : World} {base : Nat} {v : Value} {L : List Nat} (h : Own W base v L) {k : Nat} (hk : v.ownBlock = some k) : ∃ o, W.heap[k]? = some o ∧ o.isCells = true := by
  rcases h.2 with ⟨rfl, _⟩ | ⟨g, cap, cur, rfl, hb', hgg, rest⟩
  · cases hk
  · cases hk; exact ⟨_, hgg, rfl⟩

/-- The numbers in a block, from its beginning on. -/
def IntsAt (W : World) (g : Nat) (L : List Nat) : Prop := ∀ j, j < L.length → W.cell? ⟨g, j, none⟩ = some (.int .i64 ((L.getD j 0 : Nat) : Int))
/-- Where the first k lines begin. -/
def lat (T : List UInt8) (k : Nat) : List Nat := (List.range k).map (lineAt T)
theorem lat_len (T : List UInt8) (k : Nat) : (lat T k).length = k := by simp [lat]
theorem lat_succ (T : List UInt8) (k : Nat) : lat T (k + 1) = lat T k ++ [lineAt T k] := by
  unfold lat
  rw [List.range_succ, List.map_append]
  rfl
theorem lat_all (T : List UInt8) : lat T (nlines T) = starts T T.length := by
  refine List.ext_getElem (by rw [lat_len]; rfl) (fun i h1 h2 => ?_)
  simp [lat, lineAt, h2]

set_option maxRecDepth 100000 in
set_option maxHeartbeats 4000000 in
/-- Lines(s). -/
theorem plines_c (s : ByteArray) (hs : s.size ≤ 600) (w : World) :
    Calls Tryd.prog 17 #[.string s] w fun e W' => ∃ g, e = .returned (.slice (some ⟨g, 0, none⟩) (nlines s.data.toList) (nlines s.data.toList)) ∧ w.heap.size ≤ g ∧ g < W'.heap.size ∧ IntsAt W' g (lat s.data.toList (nlines s.data.toList)) ∧ Below w.heap.size w W' := by
  have hN2 : nlines s.data.toList ≤ 601 := by have := nlines_le s.data.toList; rw [← Lib.size_eq] at this; omega
  have hN1 := nlines_pos s.data.toList
  refine (callsIn_wide (n := 5)).1 ?_
  refine callsIn_of_wp_marks Tryd.func17 rfl trivial ?_ rfl
  simp only [Tryd.ntmps17, List.size_toArray, List.length_cons, List.length_nil, Nat.reduceAdd, Nat.reduceSub, Array.replicate_succ, Array.replicate_zero, List.push_toArray, List.append_toArray, List.nil_append, List.cons_append]
  gi_wp2_with (refine ⟨trivial, ?_⟩; gi_at_call 32; refine (lines_in _ _ _).mono ?_; rintro e w' ⟨rfl, rfl⟩)
  obtain ⟨h, hh⟩ : ∃ h, h = w.heap.size := ⟨_, rfl⟩
  have r1 : Row ((w.alloc (.cells #[.slice none 0 0] 30)).alloc (.cells #[.string s] 46)) w.heap.size 30 #[.slice none 0 0] := (Row.new _ _ _).alloc _
  have r4 : Row ((w.alloc (.cells #[.slice none 0 0] 30)).alloc (.cells #[.string s] 46)) (w.heap.size + 1) 46 #[.string s] := Row.at _ _ _ _ (by simp)
  have hB0 : Below w.heap.size w ((w.alloc (.cells #[.slice none 0 0] 30)).alloc (.cells #[.string s] 46)) := ((Below.refl _ w).alloc (Nat.le_refl _) _).alloc (by simp) _
  obtain ⟨W0, hW0⟩ : ∃ W0, ((w.alloc (.cells #[.slice none 0 0] 30)).alloc (.cells #[.string s] 46)) = W0 := ⟨_, rfl⟩
  have hsz : W0.heap.size = w.heap.size + 2 := by rw [← hW0]; simp
  rw [hW0] at r1 r4 hB0 ⊢
  clear hW0
  rw [← hh] at r1 r4 hB0 hsz ⊢
  have HH := Lib.hid hh
  have HS := Lib.hid hsz
  have hsz1 : h + 2 ≤ W0.heap.size := by omega
  clear hh hsz
  refine wpIn_rangeFunc_ownH rfl (by omega) (gf := 45) (lb := #[.pointer (some ⟨h + 1, 0, none⟩)]) rfl trivial (enters_of Tryd.func45 (by kernel_rfl) rfl)
    (lines_stops 4 (by omega) (h + 1) h s hs W0 (by omega) (by rw [r4.cell]; rfl)) keepB_t (keepB_b (by omega) (by omega)) (Below.refl _ _) (fun _ => rfl)
    (fun pre W => (∃ v L, Row W h 30 #[v] ∧ Own W (h + 2) v L ∧ L.length = pre.length ∧ (InOrder pre → L = lat s.data.toList pre.length) ∧ h + 2 ≤ W.heap.size) ∧ Below h w W)
    (fun c pre W => False)
    (OwnFrom.and (Own.from (fun p X Y row hs hg hr => by obtain ⟨v, L, h1, h2, h3, h4, h5⟩ := hs; exact ⟨v, L, h1.kept hg hr, own_kept h2 hg hr, h3, h4, Nat.le_trans h5 hg.size⟩) _) (ownFrom_below (Nat.le_of_eq HH.out) (by omega)))
    (fun _ _ _ _ _ hs _ _ => hs)
    ⟨⟨_, [], r1, World.ownsRow_nil _ _ _ _, rfl, fun _ => rfl, by omega⟩, hB0⟩
    (fun x a' W => ∃ Bx, h + 2 ≤ Bx ∧ Row W Bx 41 #[.int .i64 ((lineAt s.data.toList x.1 : Nat) : Int), .int .i64 ((lineEnd s.data.toList x.1 : Nat) : Int)] ∧ a' = { tmps := #[.string s, undef, .slice none 0 0, .pointer (some ⟨h, 0, none⟩), undef, .pointer (some ⟨Bx, 0, none⟩), .string s, .agg #[.string s], .func (.func 45) #[] #[.pointer (some ⟨h + 1, 0, none⟩)], .int .i64 ((x.1 : Nat) : Int), .agg #[.int .i64 ((lineAt s.data.toList x.1 : Nat) : Int), .int .i64 ((lineEnd s.data.toList x.1 : Nat) : Int)], undef, undef, undef, undef, undef, undef, undef, undef, undef, undef], defers := [] })
    (fun x a' _ X Y row hs hg hr => by obtain ⟨Bx, h1, h2, h3⟩ := hs; exact ⟨Bx, h1, h2.kept hg (fun r e => (hr r e).2), h3⟩)
    ?assign ?body ?done ?stop
  case assign =>
    rintro l pre x W K ⟨⟨v, L, a1, a2, a3, a4, a5⟩, hB1⟩ hK
    dsimp only [encL]
    gi_wp2
    exact hK _ _ ((KeepsOthers.alloc _ _).from _) ⟨(Below.refl _ W).alloc (by omega) _, Below.heap_alloc W _ _ (by omega)⟩ ⟨⟨v, L, a1.alloc _, a2.alloc _, a3, a4, by rw [World.size_alloc]; omega⟩, hB1.alloc (by omega) _⟩ ⟨W.heap.size, a5, Row.new W _ _, rfl⟩
  case body =>
    rintro l pre x a' W hl ⟨r, hr⟩ ⟨⟨v, L, a1, a2, a3, a4, a5⟩, hB1⟩ ⟨Bx, hBx, bX, rfl⟩ hlt
    have c1 := a1.cell 0
    have f1 := a1.frozen 0
    have c5 := bX.cell 0
    have c6 := bX.cell 1
    simp at c1 c5 c6
    have hL601 : L.length ≤ 601 := by omega
    have hbeg := begins_c (h + 2) W.heap.size (lineAt s.data.toList x.1) (lineEnd s.data.toList x.1) v L hL601 (W.alloc (.cells #[.int .i64 ((lineAt s.data.toList x.1 : Nat) : Int), .int .i64 ((lineEnd s.data.toList x.1 : Nat) : Int)] 41)) (by rw [World.size_alloc]; omega) (a2.alloc _) (Row.new W _ _)
    have HBEG := Lib.hid hbeg
    have A2 := Lib.hid a2
    have A3 := Lib.hid a3
    have A4 := Lib.hid a4
    clear hbeg a2 a3 a4 hr
    gi_wp2_with (refine ⟨trivial, ?_⟩; gi_at_call 33; refine (CallsIn.inRound l (callsIn_wide.2 HBEG.out)).mono ?_; rintro e W1 ⟨v', rfl, ho1, hb1, hk1⟩; obtain ⟨g2, cap2, rfl, hgb, hgl⟩ := ho1.form (by rw [List.length_append, List.length_singleton]; omega); have a1' := (a1.alloc _).below hb1 (by omega); have c1' := a1'.cell 0; have f1' := a1'.frozen 0; simp at c1'; have HO1 := Lib.hid ho1; have HB1 := Lib.hid hb1; have HK1 := Lib.hid hk1; clear ho1 hb1 hk1 c1 f1)
    have ho2 : Own W1 (h + 2) (.slice (some ⟨g2, 0, none⟩) (L.length + 1) cap2) (L ++ [lineAt s.data.toList x.1]) := by
      have := HO1.out
      rw [show (L ++ [lineAt s.data.toList x.1]).length = L.length + 1 by rw [List.length_append, List.length_singleton]] at this
      exact this
    have hs1 := HB1.out.size
    rw [World.size_alloc] at hs1
    have hown : v.ownBlock ≠ some (h + 1) := fun e => by have := (A2.out.lt _ e).1; omega
    refine ⟨⟨by show W.heap.size ≤ (W1.setCell _ _).heap.size; rw [World.size_setCell]; omega, fun k o hk ho hc => ?_⟩, ⟨?_, ?_⟩, ⟨_, _, a1'.set 0 _, own_same ho2 (fun k e => ?_), ?_, fun hin => ?_, ?_⟩, ?_⟩
    · have hk2 : k < W.heap.size := (Array.getElem?_eq_some_iff.1 ho).1
      rw [Below.heap_setCell W1 _ _ k (by dsimp only; omega), HK1.out k (by rw [World.size_alloc]; omega) (fun e => by
        obtain ⟨o', ho', hc'⟩ := own_cells A2.out e
        rw [ho] at ho'; cases ho'; rw [hc] at hc'; cases hc'), Below.heap_alloc W _ k hk2]
      exact ho
    · exact (((Below.refl h W).alloc (by omega) _).trans (HB1.out.mono (by omega))).setCell (by dsimp only; omega) _
    · rw [Below.heap_setCell W1 _ _ (h + 1) (by dsimp only; omega), HK1.out (h + 1) (by rw [World.size_alloc]; omega) hown, Below.heap_alloc W _ (h + 1) (by omega)]
    · exact Below.heap_setCell W1 _ _ k (by cases e; dsimp only; omega)
    · rw [List.length_append, List.length_append, List.length_singleton, List.length_singleton, A3.out]
    · obtain ⟨h1, h2⟩ := inOrder_snoc.1 hin
      rw [A4.out h1, List.length_append, List.length_singleton, lat_succ, h2]
    · rw [World.size_setCell]; omega
    · exact ((hB1.alloc (by omega) _).trans (HB1.out.mono (by omega))).setCell (by dsimp only; omega) _
  case done =>
    rintro D zs W hD hz ⟨⟨v, L, a1, a2, a3, a4, a5⟩, hB1⟩ hK
    obtain ⟨hi1, hi2⟩ := inOrder_of hz
    have hL := a4 hi1
    rw [hi2] at hL a3
    obtain ⟨g, cap, rfl, hgb, hgl, hcell⟩ := own_form a2 (by omega)
    obtain ⟨N, hN⟩ : ∃ N, N = nlines s.data.toList := ⟨_, rfl⟩
    obtain ⟨m, hm⟩ : ∃ m, m = L.length := ⟨_, rfl⟩
    have hcap : m ≤ cap ∧ cap ≤ maxLen := by
      rcases a2.2 with ⟨h1, _⟩ | ⟨g', cap', cur, h1, _, _, h2, h3, _⟩
      · cases h1
      · cases h1; rw [hm]; exact ⟨h2, h3⟩
    have c1 := a1.cell 0
    simp at c1
    rw [← hm] at c1
    have HC := Lib.hid hcell
    have HLL := Lib.hid hL
    have HM : Hid (m = nlines s.data.toList) := Lib.hid (by rw [hm]; exact a3)
    have A1 := Lib.hid a1
    have hm2 : m ≤ 601 := by rw [HM.out]; exact hN2
    have hm3 : 1 ≤ m := by rw [HM.out]; exact hN1
    obtain ⟨hcap1, hcap2⟩ := hcap
    unfold maxLen at hcap2
    clear hz hi1 hi2 hL a2 a3 a4 hcell hN hm a1 N
    gi_wp2
    refine ⟨by simp, .inl ⟨_, _, rfl, run_takeDeferred hK, ?_⟩⟩
    refine ⟨_, results_tmp rfl _ _ _, g, (by rw [← HM.out]; rfl), by rw [← HH.out]; omega, ?_, fun j hj => ?_, ?_⟩
    · exact Nat.lt_of_lt_of_le hgl (grownBy_putObj' W D (.deferred none)).size
    · rw [← HLL.out] at hj ⊢
      exact cell_kept (HC.out j hj) (grownBy_putObj' W D (.deferred none)) (fun r e => by cases e; exact ⟨_, hK, rfl⟩)
    · rw [← HH.out]
      exact hB1.trans (belowK_b (w := w) (Nat.le_of_eq HH.out) W D _ _ (by have := HH.out; omega) hK rfl rfl)
  case stop =>
    rintro D c pre W _ _ hf _
    exact hf.elim
end Go.Proofs.YtaahhilnkffdlaaDoor
