/- A line's first token; a line's tokens; names. -/
import Derived.Test.YthnnjogkomhmfaaDoorLxLine
import Derived.Shelf.AbstractIn
import Derived.BigQuiet
import Derived.Deep.QuietTactic
namespace Go.Proofs.YthnnjogkomhmfaaDoor
open Go Go.RowKit Go.Shelf
attribute [local go_sem] Oper.semAt_some

theorem collect_c (T : List UInt8) (hT : T.length ≤ 10000) (Bs : Nat) (w : World) (hG : LG w) (hBs : Row w Bs 9 #[.string (bs T)]) :
    Calls Tryd.prog 25 #[.func (.func 30) #[] #[.pointer (some ⟨Bs, 0, none⟩)]] w fun e W' => ∃ v, e = .returned v ∧ OwnL W' w.heap.size v (toks st T 0) ∧ Below w.heap.size w W' := by
  have HA := Lib.hid (appendSeq_c T hT Bs w hG hBs)
  clear hG hBs
  go_enter Tryd.func25, Tryd.ntmps25
  go_wp2_with (go_at_call 29; refine HA.out.mono ?_; rintro e w1 ⟨v, rfl, hv1, hb1⟩; have HV1 := Lib.hid hv1; have HB1 := Lib.hid hb1; clear hv1 hb1)
  go_ret
  exact ⟨v, rfl, HV1.out, HB1.out⟩

/-- Line(s). -/
theorem line_own (T : List UInt8) (hT : T.length ≤ 10000) (w : World) (hG : LG w) :
    Calls Tryd.prog 18 #[.string (bs T)] w fun e W' => ∃ v, e = .returned v ∧ OwnL W' (w.heap.size + 1) v (toks st T 0) ∧ Below w.heap.size w W' := by
  have hb0 : Below w.heap.size w (w.alloc (.cells #[.string (bs T)] 9)) := (Below.refl _ w).alloc (Nat.le_refl _) _
  have HC := Lib.hid (collect_c T hT w.heap.size (w.alloc (.cells #[.string (bs T)] 9)) (hG.below hb0) (Row.new _ _ _))
  have HT := Lib.hid (tokens_c (bs T) w)
  have HB0 := Lib.hid hb0
  clear hG hb0
  go_enter Tryd.func18, Tryd.ntmps18
  go_wp2_with (first
    | (go_at_call 26; refine HT.out.mono ?_; rintro e w1 ⟨rfl, rfl⟩)
    | (go_at_call 25; refine HC.out.mono ?_; rintro e w2 ⟨v, rfl, hv2, hb2⟩; have HV2 := Lib.hid hv2; have HB2 := Lib.hid hb2; clear hv2 hb2))
  go_ret
  refine ⟨v, rfl, ?_, HB0.out.trans (HB2.out.mono (by simp))⟩
  have := HV2.out
  rw [World.size_alloc] at this
  exact this
theorem toks_max {T : List UInt8} (hT : T.length ≤ 10000) : (toks st T 0).length ≤ maxLen := by
  have := toks_len st st_ok T.length T (Nat.le_refl _)
  unfold maxLen
  omega
theorem line_c (T : List UInt8) (hT : T.length ≤ 10000) (w : World) (hG : LG w) :
    Calls Tryd.prog 18 #[.string (bs T)] w fun e W' => ∃ v, e = .returned v ∧ TL W' v (toks st T 0) ∧ Below w.heap.size w W' :=
  (line_own T hT w hG).mono fun _ _ ⟨v, h1, h2, h3⟩ => ⟨v, h1, OwnL.tl (toks_max hT) h2, h3⟩

/-- The first token of any text. -/
def firstT (T : List UInt8) : Tk := if T = [] then noTk else tk1 st T
theorem tkAt_zero {T : List UInt8} (h : T ≠ []) : tkAt T 0 = tk1 st T := by
  unfold tkAt
  rw [toks_cons st st_ok h]
  rfl

set_option maxRecDepth 100000 in
set_option maxHeartbeats 4000000 in
/-- First(s). -/
theorem lfirst_c (T : List UInt8) (hT : T.length ≤ 10000) (w : World) (hG : LG w) :
    Calls Tryd.prog 19 #[.string (bs T)] w fun e W' => e = .returned (.tuple #[tokV (firstT T), .bool !T.isEmpty]) ∧ Below w.heap.size w W' := by
  have hmix : Tryd.prog.follows .mixedOrders = true := by kernel_rfl
  refine (callsIn_wide (n := 5)).1 ?_
  refine callsIn_of_wp_marks Tryd.func19 rfl trivial ?_ rfl
  simp only [Tryd.ntmps19, List.size_toArray, List.length_cons, List.length_nil, Nat.reduceAdd, Nat.reduceSub, Array.replicate_succ, Array.replicate_zero, List.push_toArray, List.append_toArray, List.nil_append, List.cons_append]
  gi_wp2
  refine wpIn_scope_straight ?_
  gi_wp2
  refine wpIn_label ?_
  gi_wp2_with (refine ⟨trivial, ?_⟩; gi_at_call 26; refine (callsIn_wide.2 (tokens_c _ _)).mono ?_; rintro e w' ⟨rfl, rfl⟩)
  rename_i Q' K hK
  obtain ⟨h, hh⟩ : ∃ h, h = w.heap.size := ⟨_, rfl⟩
  obtain ⟨s, hs⟩ : ∃ s, s = bs T := ⟨_, rfl⟩
  obtain ⟨W0, hW0⟩ : ∃ W0, (((w.alloc (.cells #[.int .i64 0, .string ⟨#[]⟩, .string ⟨#[]⟩] 30)).alloc (.cells #[.int .i64 0, .string ⟨#[]⟩, .string ⟨#[]⟩] 30)).alloc (.cells #[.string (bs T)] 9)) = W0 := ⟨_, rfl⟩
  have r1 : Row W0 w.heap.size 30 #[.int .i64 0, .string ⟨#[]⟩, .string ⟨#[]⟩] := by rw [← hW0]; exact ((Row.new _ _ _).alloc _).alloc _
  have r2 : Row W0 (w.heap.size + 1) 30 #[.int .i64 0, .string ⟨#[]⟩, .string ⟨#[]⟩] := by rw [← hW0]; exact (Row.at _ _ _ _ (by simp)).alloc _
  have r3 : Row W0 (w.heap.size + 1 + 1) 9 #[.string (bs T)] := by rw [← hW0]; exact Row.at _ _ _ _ (by simp)
  have hB0 : Below w.heap.size w W0 := by rw [← hW0]; exact (((Below.refl _ w).alloc (Nat.le_refl _) _).alloc (by simp) _).alloc (by simp; omega) _
  have hsz : W0.heap.size = w.heap.size + 3 := by rw [← hW0]; simp
  have hG0 := hG.below hB0
  have hgl := hG.gl.lt
  have hgl1 := hG.lt1
  have hgl2 := hG.lt2
  rw [hW0]
  clear hW0 hG
  rw [← hh] at r1 r2 r3 hB0 hsz hgl hgl1 hgl2 ⊢
  rw [← hs]
  have HH := Lib.hid hh
  have HS := Lib.hid hs
  have hsz1 : h + 3 ≤ W0.heap.size := by omega
  clear hh hsz hs
  refine wpIn_rangeFunc_ownC (t := 59) rfl (by omega) (gf := 30) (lb := #[.pointer (some ⟨h + 1 + 1, 0, none⟩)]) rfl trivial (enters_of Tryd.func30 (by kernel_rfl) rfl)
    (tokens_stops 4 (by omega) (h + 1 + 1) h T hT W0 hgl hgl1 hgl2 (by omega) r3 hG0) KeepT.trans (keepT_b (by omega)) (Below.refl _ _) (fun _ => rfl)
    (fun pre W => (pre = [] ∧ Row W h 30 #[.int .i64 0, .string ⟨#[]⟩, .string ⟨#[]⟩] ∧ Row W (h + 1) 30 #[.int .i64 0, .string ⟨#[]⟩, .string ⟨#[]⟩] ∧ h + 3 ≤ W.heap.size) ∧ Below h w W)
    (fun c pre W => (c = .exit 0 ∧ (∃ x : Ix (nT T), pre = [x] ∧ Row W (h + 1) 30 (tokC (tkAt T x.1))) ∧ Row W h 30 #[.int .i64 0, .string ⟨#[]⟩, .string ⟨#[]⟩] ∧ h + 3 ≤ W.heap.size) ∧ Below h w W)
    (fun p X Y hs hb => by obtain ⟨⟨e, a1, a2, a3⟩, a4⟩ := hs; exact ⟨⟨e, a1.below hb.1 (by omega), a2.below hb.1 (by omega), Nat.le_trans a3 hb.1.size⟩, a4.trans (hb.1.mono (by omega))⟩)
    (fun c p X Y hs hb => by obtain ⟨⟨e, ⟨x, e1, a1⟩, a2, a3⟩, a4⟩ := hs; exact ⟨⟨e, ⟨x, e1, a1.below hb.1 (by omega)⟩, a2.below hb.1 (by omega), Nat.le_trans a3 hb.1.size⟩, a4.trans (hb.1.mono (by omega))⟩)
    (fun p X l r r' hs hl hX => by obtain ⟨⟨e, a1, a2, a3⟩, a4⟩ := hs; exact ⟨⟨e, (World.putObj_heap_other (by omega)).trans a1, (World.putObj_heap_other (by omega)).trans a2, by rw [show (X.putObj l _).heap.size = X.heap.size by simp [World.putObj]]; exact a3⟩, below_put a4 (by omega) hX⟩)
    (fun c p X l r r' hs hl hX => by obtain ⟨⟨e, ⟨x, e1, a1⟩, a2, a3⟩, a4⟩ := hs; exact ⟨⟨e, ⟨x, e1, (World.putObj_heap_other (by omega)).trans a1⟩, (World.putObj_heap_other (by omega)).trans a2, by rw [show (X.putObj l _).heap.size = X.heap.size by simp [World.putObj]]; exact a3⟩, below_put a4 (by omega) hX⟩)
    ⟨⟨rfl, r1, r2, hsz1⟩, hB0⟩
    (fun x a' W => ∃ Bx, h + 3 ≤ Bx ∧ Row W Bx 30 (tokC (tkAt T x.1)) ∧ a' = { tmps := #[.string s, undef, .pointer (some ⟨h, 0, none⟩), .bool false, .pointer (some ⟨h + 1, 0, none⟩), .pointer (some ⟨Bx, 0, none⟩), .string s, .func (.func 30) #[] #[.pointer (some ⟨h + 1 + 1, 0, none⟩)], tokV (tkAt T x.1), undef, undef, undef, undef, undef], defers := [] })
    (fun x a' _ X Y row hs hg hr => by obtain ⟨Bx, h1, h2, h3⟩ := hs; exact ⟨Bx, h1, h2.kept hg (fun r e => (hr r e).2), h3⟩)
    ?assign ?body ?done ?stop
  case assign =>
    rintro l pre x W K' ⟨⟨e, a1, a2, a6⟩, hB1⟩ hsW hK'
    dsimp only [encK, tokV]
    gi_wp2
    exact hK' _ _ ((KeepsOthers.alloc _ _).from _) (keepT_alloc (by omega) _) ⟨⟨e, a1.alloc _, a2.alloc _, by rw [World.size_alloc]; omega⟩, hB1.alloc (by omega) _⟩ ⟨W.heap.size, a6, Row.new W _ _, rfl⟩
  case body =>
    rintro l pre x a' W hl ⟨r, hr⟩ ⟨⟨rfl, a1, a2, a6⟩, hB1⟩ ⟨Bx, hBx, bX, rfl⟩ hlt
    obtain ⟨kd, hkd⟩ : ∃ kd : Int, kd = (((tkAt T x.1).kind : Nat) : Int) := ⟨_, rfl⟩
    obtain ⟨U, hU⟩ : ∃ U, U = bs (tkAt T x.1).text := ⟨_, rfl⟩
    obtain ⟨G, hGl⟩ : ∃ G, G = bs (tkAt T x.1).glyph := ⟨_, rfl⟩
    have htc : tokC (tkAt T x.1) = #[.int .i64 kd, .string U, .string G] := by rw [hkd, hU, hGl]; rfl
    have HTC := Lib.hid htc
    rw [htc] at bX
    obtain ⟨c1, c2, c3, _, _, _⟩ := tok_cells bX
    obtain ⟨d0, d1, d2, f0, f1, f2⟩ := tok_cells a2
    have HA1 := Lib.hid a1
    have HA2 := Lib.hid a2
    have HB := Lib.hid hB1
    clear htc hkd hU hGl a1 a2 bX hB1 hr
    gi_wp2
    refine ⟨(((KeepsOthers.setCell _ _ _).trans (KeepsOthers.setCell _ _ _)).trans (KeepsOthers.setCell _ _ _)).from _, ⟨rfl, ⟨x, rfl, ?_⟩, ((HA1.out.other (by omega) _).other (by omega) _).other (by omega) _, ?_⟩, ?_⟩
    · rw [HTC.out]; exact tok_set HA2.out _ _ _
    · rw [World.size_setCell, World.size_setCell, World.size_setCell]; exact a6
    · exact below_set3 HB.out _ _ _ (by dsimp only; omega) (by dsimp only; omega) (by dsimp only; omega) _ _ _
  case done =>
    rintro D zs W hD hz ⟨⟨rfl, a1, a2, a6⟩, hB1⟩ hKD
    have hN0 : nT T = 0 := by have := congrArg List.length hz; simpa using this.symm
    have hT0 : T = [] := Classical.byContradiction fun e => by
      unfold nT at hN0
      rw [toks_cons st st_ok e] at hN0
      simp at hN0
    have HL : Hid (tokV (firstT T) = .agg #[.int .i64 0, .string ⟨#[]⟩, .string ⟨#[]⟩] ∧ (!T.isEmpty) = false) := Lib.hid (by subst hT0; exact ⟨rfl, rfl⟩)
    obtain ⟨d0, d1, d2, f0, f1, f2⟩ := tok_cells a2
    obtain ⟨e0, e1, e2, g0, g1, g2⟩ := tok_cells a1
    have b2 := (tok_set a1 (.int .i64 0) (.string ⟨#[]⟩) (.string ⟨#[]⟩)).drew
    have hK1 := ((((KeepsOthers.setCell W ⟨h, 0, none⟩ (.int .i64 0)).trans (KeepsOthers.setCell _ ⟨h, 1, none⟩ (.string ⟨#[]⟩))).trans (KeepsOthers.setCell _ ⟨h, 2, none⟩ (.string ⟨#[]⟩))).trans (KeepsOthers.drew _)).same D _ hKD rfl
    have hB2 := (below_set3 hB1 ⟨h, 0, none⟩ ⟨h, 1, none⟩ ⟨h, 2, none⟩ (Nat.le_refl _) (Nat.le_refl _) (Nat.le_refl _) (.int .i64 0) (.string ⟨#[]⟩) (.string ⟨#[]⟩)).drew
    have B2 := Lib.hid b2
    have K1 := Lib.hid hK1
    have HB2 := Lib.hid hB2
    clear hN0 hT0 hz a1 a2 hB1 b2 hK1 hB2
    refine hK _ _ ?_
    gi_wp2
    gi_region
    all_goals
      gi_wp2
      try rw [Exit.noGoto_ret]
      have b2 := B2.out
      have hK1 := K1.out
      have hB2 := HB2.out
      refine ⟨by simp, .inl ⟨_, _, rfl, run_takeDeferred hK1, ?_⟩⟩
      clear B2 K1 HB2
      obtain ⟨V, hV⟩ : ∃ V, V = (((W.setCell ⟨h, 0, none⟩ (.int .i64 0)).setCell ⟨h, 1, none⟩ (.string ⟨#[]⟩)).setCell ⟨h, 2, none⟩ (.string ⟨#[]⟩)).drew := ⟨_, rfl⟩
      rw [← hV] at hK1 b2 hB2 ⊢
      refine ⟨.tuple #[.agg #[.int .i64 0, .string ⟨#[]⟩, .string ⟨#[]⟩], .bool false], ?_, ?_, ?_⟩
      · have g2 := (b2.kept (grownBy_putObj' V D (.deferred none)) (fun r e => by cases e; exact ⟨_, hK1, rfl⟩))
        obtain ⟨v0, v1, v2, _, _, _⟩ := tok_cells g2
        simp [results, Tryd.f19, go_sem, v0, v1, v2]
      · rw [HL.out.1, HL.out.2]
      · rw [← HH.out]
        exact hB2.trans (belowK_b (w := w) (Nat.le_of_eq HH.out) V D _ _ (by have := HH.out; omega) hK1 rfl rfl)
  case stop =>
    rintro D c pre W hD ⟨m, hm1, hz⟩ ⟨⟨rfl, ⟨x, rfl, a2⟩, a1, a6⟩, hB1⟩ hKD
    have hx0 : x.1 = 0 := by
      have hl : m = 1 := by have := congrArg List.length hz; simpa using this.symm
      subst hl
      simpa using hz
    have hnz : nT T ≠ 0 := by have := x.2; omega
    have hne : T ≠ [] := fun e => hnz (by unfold nT; rw [e, toks_nil]; rfl)
    have htk := tkAt_zero hne
    rw [hx0, htk] at a2
    obtain ⟨n, _, _, _, hk1, hk2⟩ := tk1_fits st hne (st_bounds hne)
    obtain ⟨kd, hkd⟩ : ∃ kd : Int, kd = (((tk1 st T).kind : Nat) : Int) := ⟨_, rfl⟩
    obtain ⟨U, hU⟩ : ∃ U, U = bs (tk1 st T).text := ⟨_, rfl⟩
    obtain ⟨G, hGl⟩ : ∃ G, G = bs (tk1 st T).glyph := ⟨_, rfl⟩
    have htc : tokC (tk1 st T) = #[.int .i64 kd, .string U, .string G] := by rw [hkd, hU, hGl]; rfl
    rw [htc] at a2
    have hkn : (kd == 0) = false := by rw [hkd]; simp; omega
    have HL : Hid (tokV (firstT T) = .agg #[.int .i64 kd, .string U, .string G] ∧ (!T.isEmpty) = true) := Lib.hid (by
      refine ⟨?_, ?_⟩
      · unfold firstT; rw [if_neg hne, hkd, hU, hGl]; rfl
      · cases T with
        | nil => exact absurd rfl hne
        | cons b r => rfl)
    obtain ⟨d0, d1, d2, f0, f1, f2⟩ := tok_cells a2
    obtain ⟨e0, e1, e2, g0, g1, g2⟩ := tok_cells a1
    have b2 := (tok_set a1 (.int .i64 kd) (.string U) (.string G)).drew
    have hK1 := ((((KeepsOthers.setCell W ⟨h, 0, none⟩ (.int .i64 kd)).trans (KeepsOthers.setCell _ ⟨h, 1, none⟩ (.string U))).trans (KeepsOthers.setCell _ ⟨h, 2, none⟩ (.string G))).trans (KeepsOthers.drew _)).same D _ hKD rfl
    have hB2 := (below_set3 hB1 ⟨h, 0, none⟩ ⟨h, 1, none⟩ ⟨h, 2, none⟩ (Nat.le_refl _) (Nat.le_refl _) (Nat.le_refl _) (.int .i64 kd) (.string U) (.string G)).drew
    have B2 := Lib.hid b2
    have K1 := Lib.hid hK1
    have HB2 := Lib.hid hB2
    clear hx0 hne hnz htk hz a1 a2 hB1 b2 hK1 hB2 hkd hU hGl htc hk1 hk2
    gi_wp2
    gi_region
    all_goals
      gi_wp2
      try rw [Exit.noGoto_ret]
      have b2 := B2.out
      have hK1 := K1.out
      have hB2 := HB2.out
      refine ⟨by simp, .inl ⟨_, _, rfl, run_takeDeferred hK1, ?_⟩⟩
      clear B2 K1 HB2
      obtain ⟨V, hV⟩ : ∃ V, V = (((W.setCell ⟨h, 0, none⟩ (.int .i64 kd)).setCell ⟨h, 1, none⟩ (.string U)).setCell ⟨h, 2, none⟩ (.string G)).drew := ⟨_, rfl⟩
      rw [← hV] at hK1 b2 hB2 ⊢
      refine ⟨.tuple #[.agg #[.int .i64 kd, .string U, .string G], .bool true], ?_, ?_, ?_⟩
      · have g2 := (b2.kept (grownBy_putObj' V D (.deferred none)) (fun r e => by cases e; exact ⟨_, hK1, rfl⟩))
        obtain ⟨v0, v1, v2, _, _, _⟩ := tok_cells g2
        simp [results, Tryd.f19, go_sem, v0, v1, v2]
      · rw [HL.out.1, HL.out.2]
      · rw [← HH.out]
        exact hB2.trans (belowK_b (w := w) (Nat.le_of_eq HH.out) V D _ _ (by have := HH.out; omega) hK1 rfl rfl)

/-- IsName(s). -/
theorem isName_c (T : List UInt8) (hT : T.length ≤ 10000) (w : World) (hG : LG w) :
    Calls Tryd.prog 20 #[.string (bs T)] w fun e W' => e = .returned (.bool ((firstT T).kind == 5 && (firstT T).text == T)) ∧ Below w.heap.size w W' := by
  have hF := lfirst_c T hT w hG
  obtain ⟨kn, hkn⟩ : ∃ kn, kn = (firstT T).kind := ⟨_, rfl⟩
  obtain ⟨U, hU⟩ : ∃ U, U = bs (firstT T).text := ⟨_, rfl⟩
  obtain ⟨G, hGl⟩ : ∃ G, G = bs (firstT T).glyph := ⟨_, rfl⟩
  obtain ⟨s, hs⟩ : ∃ s, s = bs T := ⟨_, rfl⟩
  obtain ⟨q, hq⟩ : ∃ q, q = !T.isEmpty := ⟨_, rfl⟩
  have htv : tokV (firstT T) = .agg #[.int .i64 (kn : Int), .string U, .string G] := by rw [hkn, hU, hGl]; rfl
  have heq : (U.toList == s.toList) = ((firstT T).text == T) := by rw [hU, hs, eqb_bs]
  rw [htv, ← hs, ← hq] at hF
  rw [← hs, ← hkn, ← heq]
  have hmix : Tryd.prog.follows .mixedOrders = true := by kernel_rfl
  have HF := Lib.hid hF
  clear hF htv heq hkn hU hGl hs hq hG
  go_enter Tryd.func20, Tryd.ntmps20
  go_wp2_with (go_at_call 19; refine HF.out.mono ?_; rintro e w1 ⟨rfl, hb1⟩; have HB1 := Lib.hid hb1; clear hb1)
  all_goals
    go_ret
    refine ⟨?_, HB1.out.alloc HB1.out.size _⟩
  · have : (kn == 5) = true := by simp; omega
    rw [this]
    rfl
  · have : (kn == 5) = false := by simp; omega
    rw [this]
    rfl
end Go.Proofs.YthnnjogkomhmfaaDoor
