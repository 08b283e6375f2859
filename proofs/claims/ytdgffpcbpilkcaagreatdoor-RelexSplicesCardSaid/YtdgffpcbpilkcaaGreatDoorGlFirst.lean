/- The sign that a text begins with. -/
import Derived.Test.YtdgffpcbpilkcaaGreatDoorGlSigns
import Derived.Test.YtdgffpcbpilkcaaGreatDoorShelf
import Derived.Shelf.AbstractIn
namespace Go.Proofs.YtdgffpcbpilkcaaGreatDoor
open Go Go.RowKit Go.Shelf
attribute [local go_sem] Oper.semAt_some

theorem keepsFrom_below {B : Nat} {W W' : World} (h : Below W.heap.size W W') : KeepsFrom B W W' :=
  ⟨h.size, fun k _ _ ho _ => (h.block k (Array.getElem?_eq_some_iff.1 ho).1).trans ho⟩

/-- A sign, or none, as a value. -/
def optV : Option Nat → Value
  | some k => signV k
  | none => .agg #[.string ⟨#[]⟩, .string ⟨#[]⟩, .int .i64 0]

set_option maxRecDepth 100000 in
set_option maxHeartbeats 4000000 in
theorem first_c (s : ByteArray) (w : World) (hG : Ground w) :
    Calls Tryz.prog 115 #[.agg #[.string s]] w fun e W' => e = .returned (.tuple #[optV (firstK s.data.toList), .int .i64 ((fsz s.data.toList : Nat) : Int)]) ∧ Below w.heap.size w W' := by
  refine (callsIn_wide (n := 5)).1 ?_
  refine callsIn_of_wp_marks Tryz.func115 rfl trivial ?_ rfl
  simp only [Tryz.ntmps115, List.size_toArray, List.length_cons, List.length_nil, Nat.reduceAdd, Nat.reduceSub, Array.replicate_succ, Array.replicate_zero, List.push_toArray, List.append_toArray, List.nil_append, List.cons_append]
  gi_wp2
  refine wpIn_scope_straight ?_
  gi_wp2
  refine wpIn_label ?_
  gi_wp2_with (refine ⟨trivial, ?_⟩; gi_at_call 116; refine (signs_in _ _).mono ?_; rintro e w' ⟨rfl, rfl⟩)
  rename_i Q' K hK
  obtain ⟨h, hh⟩ : ∃ h, h = w.heap.size := ⟨_, rfl⟩
  obtain ⟨W0, hW0⟩ : ∃ W0, ((((w.alloc (.cells #[.string s] 176)).alloc (.cells #[.string ⟨#[]⟩, .string ⟨#[]⟩, .int .i64 0] 172)).alloc (.cells #[.string ⟨#[]⟩, .string ⟨#[]⟩, .int .i64 0] 172)).alloc (.cells #[.int .i64 0] 3)) = W0 := ⟨_, rfl⟩
  have r0 : Row W0 (w.heap.size) 176 #[.string s] := by rw [← hW0]; exact (((Row.new _ _ _).alloc _).alloc _).alloc _
  have r1 : Row W0 (w.heap.size + 1) 172 #[.string ⟨#[]⟩, .string ⟨#[]⟩, .int .i64 0] := by rw [← hW0]; exact ((Row.at _ _ _ _ (by simp)).alloc _).alloc _
  have r2 : Row W0 (w.heap.size + 1 + 1) 172 #[.string ⟨#[]⟩, .string ⟨#[]⟩, .int .i64 0] := by rw [← hW0]; exact (Row.at _ _ _ _ (by simp)).alloc _
  have r3 : Row W0 (w.heap.size + 1 + 1 + 1) 3 #[.int .i64 0] := by rw [← hW0]; exact Row.at _ _ _ _ (by simp)
  have hB0 : Below w.heap.size w W0 := by rw [← hW0]; exact ((((Below.refl _ w).alloc (Nat.le_refl _) _).alloc (by simp) _).alloc (by simp; omega) _).alloc (by simp; omega) _
  have hsz : W0.heap.size = w.heap.size + 4 := by rw [← hW0]; simp
  have hG0 := hG.below hB0
  have hgl := hG.lt
  rw [hW0]
  clear hW0
  rw [← hh] at r0 r1 r2 r3 hB0 hsz hgl ⊢
  have HH := Lib.hid hh
  have hsz1 : h + 4 ≤ W0.heap.size := by omega
  clear hh hsz
  refine wpIn_rangeFunc_ownB rfl (by omega) (gf := 121) (lb := #[]) rfl trivial (enters_of Tryz.func121 (by kernel_rfl) rfl)
    (signs_stops 4 (by omega) h hgl W0 hG0.lt hG0.tab) Below.trans (fun W l o o' hl ho hc hw => belowK_b (w := W0) (by omega) W l o o' hl ho hc hw) (Below.refl _ _) (fun _ => rfl)
    (fun pre W => (Row W h 176 #[.string s] ∧ Row W (h + 1) 172 #[.string ⟨#[]⟩, .string ⟨#[]⟩, .int .i64 0] ∧ Row W (h + 1 + 1) 172 #[.string ⟨#[]⟩, .string ⟨#[]⟩, .int .i64 0] ∧ Row W (h + 1 + 1 + 1) 3 #[.int .i64 0] ∧ (∀ y ∈ pre, sz s.data.toList y.1 = 0) ∧ h + 4 ≤ W.heap.size) ∧ Below h w W)
    (fun c pre W => (c = .exit 0 ∧ (∃ (x : Ix 38) (pre' : List (Ix 38)), pre = pre' ++ [x] ∧ sz s.data.toList x.1 ≠ 0 ∧ (∀ y ∈ pre', sz s.data.toList y.1 = 0) ∧
        Row W (h + 1 + 1) 172 #[.string (bs (gl x.1)), .string (bs (di x.1)), .int .i64 ((cl x.1 : Nat) : Int)] ∧ Row W (h + 1 + 1 + 1) 3 #[.int .i64 ((sz s.data.toList x.1 : Nat) : Int)]) ∧
        Row W (h + 1) 172 #[.string ⟨#[]⟩, .string ⟨#[]⟩, .int .i64 0] ∧ h + 4 ≤ W.heap.size) ∧ Below h w W)
    (fun p X Y hs hb => ⟨⟨hs.1.1.below hb (by omega), hs.1.2.1.below hb (by omega), hs.1.2.2.1.below hb (by omega), hs.1.2.2.2.1.below hb (by omega), hs.1.2.2.2.2.1, Nat.le_trans hs.1.2.2.2.2.2 hb.size⟩, hs.2.trans (hb.mono (by omega))⟩)
    (fun c p X Y hs hb => by
      obtain ⟨⟨e, ⟨x, pre', e1, e2, e3, q1, q2⟩, q3, q4⟩, h2⟩ := hs
      exact ⟨⟨e, ⟨x, pre', e1, e2, e3, q1.below hb (by omega), q2.below hb (by omega)⟩, q3.below hb (by omega), Nat.le_trans q4 hb.size⟩, h2.trans (hb.mono (by omega))⟩)
    ⟨⟨r0, r1, r2, r3, (fun x hx => by cases hx), by omega⟩, hB0⟩
    (fun x a' W => ∃ Bx, h + 4 ≤ Bx ∧ Row W Bx 172 #[.string (bs (gl x.1)), .string (bs (di x.1)), .int .i64 ((cl x.1 : Nat) : Int)] ∧ a' = { tmps := #[.agg #[.string s], .pointer (some ⟨h, 0, none⟩), .pointer (some ⟨h + 1, 0, none⟩), .int .i64 0, .pointer (some ⟨h + 1 + 1, 0, none⟩), .pointer (some ⟨h + 1 + 1 + 1, 0, none⟩), .pointer (some ⟨Bx, 0, none⟩), undef, undef, .func (.func 121) #[] #[], signV x.1, undef, undef, undef, undef, undef, undef, undef, undef, undef, undef, undef, undef, undef, undef, undef, undef, undef, undef, undef, undef, undef, undef], defers := [] })
    (fun x a' _ X Y row hs hg hr => by obtain ⟨Bx, h1, h2, h3⟩ := hs; exact ⟨Bx, h1, h2.kept hg (fun r e => (hr r e).2), h3⟩)
    ?assign ?body ?done ?stop
  case assign =>
    rintro l pre x W K' ⟨⟨a1, a2, a3, a4, a5, a6⟩, hB1⟩ hsW hK'
    dsimp only [encG, signV]
    gi_wp2
    exact hK' _ _ ((KeepsOthers.alloc _ _).from _) ((Below.refl _ _).alloc (by omega) _) ⟨⟨a1.alloc _, a2.alloc _, a3.alloc _, a4.alloc _, a5, by rw [World.size_alloc]; omega⟩, hB1.alloc (by omega) _⟩ ⟨W.heap.size, a6, Row.new W _ _, rfl⟩
  case body =>
    rintro l pre x a' W hl ⟨r, hr⟩ ⟨⟨a1, a2, a3, a4, a5, a6⟩, hB1⟩ ⟨Bx, hBx, bX, rfl⟩ hlt
    have A5 := Lib.hid a5
    have hbx := bX.lt
    have c0 := a1.cell 0
    have c1 := bX.cell 0
    have c2 := bX.cell 1
    have c3 := bX.cell 2
    simp at c0 c1 c2 c3
    obtain ⟨g, hgd⟩ : ∃ g, g = bs (gl x.1) := ⟨_, rfl⟩
    obtain ⟨d, hdd⟩ : ∃ d, d = bs (di x.1) := ⟨_, rfl⟩
    obtain ⟨c, hcd⟩ : ∃ c : Int, c = ((cl x.1 : Nat) : Int) := ⟨_, rfl⟩
    have i0 : ∀ w : World, (Instr.index 188 (.agg #[.string g, .string d]) (.int .i64 0)).run Tryz.prog w = .ok (.string g) w := fun _ => by kernel_rfl
    have i1 : ∀ w : World, (Instr.index 188 (.agg #[.string g, .string d]) (.int .i64 1)).run Tryz.prog w = .ok (.string d) w := fun _ => by kernel_rfl
    have hgn : g.toList.isEmpty = false := by rw [hgd]; exact (by decide +kernel : ∀ k, k < 38 → (bs (gl k)).toList.isEmpty = false) x.1 x.2
    have gd : g.data.toList = gl x.1 := by rw [hgd, bs_list]
    have dd : d.data.toList = di x.1 := by rw [hdd, bs_list]
    have gz : g.size = (gl x.1).length := by rw [hgd, bs_size]
    have dz : d.size = (di x.1).length := by rw [hdd, bs_size]
    have g3 : g.size ≤ 3 := by rw [gz]; exact gl_len x.1 x.2
    have d3 : d.size ≤ 3 := by rw [dz]; have := di_len x.1 x.2; omega
    have HX : Hid (∀ z : Nat, z = sz s.data.toList x.1 → z = 0 → ∀ y ∈ pre ++ [x], sz s.data.toList y.1 = 0) := Lib.hid (fun z e1 e2 y hy => by
      rcases List.mem_append.1 hy with h1 | h1
      · exact A5.out y h1
      · rw [List.mem_singleton.1 h1, ← e1]; exact e2)
    dsimp only [signV]
    rw [← hgd, ← hdd, ← hcd] at bX ⊢
    rw [← hgd] at c1
    rw [← hdd] at c2
    rw [← hcd] at c3
    have HCD := Lib.hid hcd
    have HGD := Lib.hid hgd
    have HDD := Lib.hid hdd
    have HA1 := Lib.hid a1
    have HA2 := Lib.hid a2
    have HA3 := Lib.hid a3
    have HA4 := Lib.hid a4
    have HBX := Lib.hid bX
    have HB := Lib.hid hB1
    clear hcd hgd hdd a5 hr
    have c3a := a3.cell 0
    have c3b := a3.cell 1
    have c3c := a3.cell 2
    have c4a := a4.cell 0
    have f3a := a3.frozen 0
    have f3b := a3.frozen 1
    have f3c := a3.frozen 2
    have f4a := a4.frozen 0
    simp at c3a c3b c3c c4a
    clear a1 a2 a3 a4 bX hB1
    by_cases p1 : Lib.hasPrefix s.data.toList (gl x.1) = true
    · have HC1 : ∀ W, Calls Tryz.prog 105 #[.string s, .string g] W fun e w' => e = .returned (.bool true) ∧ w' = W := fun W => by
        have := Tryz.strings_HasPrefix s g W
        rwa [gd, p1] at this
      have HS : Hid (sz s.data.toList x.1 = g.size) := Lib.hid (by unfold sz; rw [if_pos p1, gz])
      have HN : Hid (sz s.data.toList x.1 ≠ 0) := Lib.hid (by rw [HS.out, gz]; exact fun e => gl_ne x.1 x.2 (List.eq_nil_of_length_eq_zero e))
      clear p1 gd dd gz dz
      gi_wp2
      refine wpIn_loop_rounds 3 ?_
      rw [roundsIn_succ]
      gi_wp2_with (refine ⟨trivial, ?_⟩; gi_at_call 105; refine (CallsIn.inRound l (callsIn_wide.2 (HC1 _))).mono ?_; rintro e w' ⟨rfl, rfl⟩)
      refine ⟨((((KeepsOthers.setCell _ _ _).trans (KeepsOthers.setCell _ _ _)).trans (KeepsOthers.setCell _ _ _)).trans (KeepsOthers.setCell _ _ _)).from _, ⟨rfl, ⟨x, pre, rfl, HN.out, A5.out, ?_, ?_⟩, ?_, ?_⟩, ?_⟩
      · rw [← HGD.out, ← HDD.out, ← HCD.out]
        exact (((HA3.out.set 0 _).set 1 _).set 2 _).other (by omega) _
      · rw [HS.out]
        exact (((HA4.out.other (by omega) _).other (by omega) _).other (by omega) _).set 0 _
      · exact (((HA2.out.other (by omega) _).other (by omega) _).other (by omega) _).other (by omega) _
      · simp; omega
      · exact (((HB.out.setCell (by dsimp only; omega) _).setCell (by dsimp only; omega) _).setCell (by dsimp only; omega) _).setCell (by dsimp only; omega) _
    · have HC1 : ∀ W, Calls Tryz.prog 105 #[.string s, .string g] W fun e w' => e = .returned (.bool false) ∧ w' = W := fun W => by
        have := Tryz.strings_HasPrefix s g W
        rwa [gd, Bool.eq_false_iff.2 p1] at this
      by_cases p2 : di x.1 = []
      · have HS : Hid (sz s.data.toList x.1 = 0) := Lib.hid (by unfold sz; rw [if_neg p1, if_neg (fun h => h.1 p2)])
        have hdn : d.toList.isEmpty = true := by rw [HDD.out, p2]; decide +kernel
        clear p1 p2 gd dd gz dz
        gi_wp2
        refine wpIn_loop_rounds 3 ?_
        rw [roundsIn_succ]
        gi_wp2_with (refine ⟨trivial, ?_⟩; gi_at_call 105; refine (CallsIn.inRound l (callsIn_wide.2 (HC1 _))).mono ?_; rintro e w' ⟨rfl, rfl⟩)
        rw [roundsIn_succ]
        gi_wp2
        refine ⟨trivial, ?_⟩
        gi_wp2
        rw [roundsIn_succ]
        gi_wp2
        refine ⟨KeepsFrom.refl _ _, Below.refl _ _, ⟨HA1.out, HA2.out, HA3.out, HA4.out, HX.out _ rfl HS.out, a6⟩, HB.out⟩
      · have hdn : d.toList.isEmpty = false := by
          have : ∀ k, k < 38 → (di k).isEmpty = false → (bs (di k)).toList.isEmpty = false := by decide +kernel
          rw [HDD.out]
          exact this x.1 x.2 (by simpa using p2)
        by_cases p3 : Lib.hasPrefix s.data.toList (di x.1) = true
        · have HC2 : ∀ W, Calls Tryz.prog 105 #[.string s, .string d] W fun e w' => e = .returned (.bool true) ∧ w' = W := fun W => by
            have := Tryz.strings_HasPrefix s d W
            rwa [dd, p3] at this
          have HS : Hid (sz s.data.toList x.1 = d.size) := Lib.hid (by unfold sz; rw [if_neg p1, if_pos ⟨p2, p3⟩, dz])
          have HN : Hid (sz s.data.toList x.1 ≠ 0) := Lib.hid (by rw [HS.out, dz]; exact fun e => p2 (List.eq_nil_of_length_eq_zero e))
          clear p1 p2 p3 gd dd gz dz
          gi_wp2
          refine wpIn_loop_rounds 3 ?_
          rw [roundsIn_succ]
          gi_wp2_with (refine ⟨trivial, ?_⟩; gi_at_call 105; refine (CallsIn.inRound l (callsIn_wide.2 (HC1 _))).mono ?_; rintro e w' ⟨rfl, rfl⟩)
          rw [roundsIn_succ]
          gi_wp2_with (refine ⟨trivial, ?_⟩; gi_at_call 105; refine (CallsIn.inRound l (callsIn_wide.2 (HC2 _))).mono ?_; rintro e w' ⟨rfl, rfl⟩)
          refine ⟨((((KeepsOthers.setCell _ _ _).trans (KeepsOthers.setCell _ _ _)).trans (KeepsOthers.setCell _ _ _)).trans (KeepsOthers.setCell _ _ _)).from _, ⟨rfl, ⟨x, pre, rfl, HN.out, A5.out, ?_, ?_⟩, ?_, ?_⟩, ?_⟩
          · rw [← HGD.out, ← HDD.out, ← HCD.out]
            exact (((HA3.out.set 0 _).set 1 _).set 2 _).other (by omega) _
          · rw [HS.out]
            exact (((HA4.out.other (by omega) _).other (by omega) _).other (by omega) _).set 0 _
          · exact (((HA2.out.other (by omega) _).other (by omega) _).other (by omega) _).other (by omega) _
          · simp; omega
          · exact (((HB.out.setCell (by dsimp only; omega) _).setCell (by dsimp only; omega) _).setCell (by dsimp only; omega) _).setCell (by dsimp only; omega) _
        · have HC2 : ∀ W, Calls Tryz.prog 105 #[.string s, .string d] W fun e w' => e = .returned (.bool false) ∧ w' = W := fun W => by
            have := Tryz.strings_HasPrefix s d W
            rwa [dd, Bool.eq_false_iff.2 p3] at this
          have HS : Hid (sz s.data.toList x.1 = 0) := Lib.hid (by unfold sz; rw [if_neg p1, if_neg (fun h => p3 h.2)])
          clear p1 p2 p3 gd dd gz dz
          gi_wp2
          refine wpIn_loop_rounds 3 ?_
          rw [roundsIn_succ]
          gi_wp2_with (refine ⟨trivial, ?_⟩; gi_at_call 105; refine (CallsIn.inRound l (callsIn_wide.2 (HC1 _))).mono ?_; rintro e w' ⟨rfl, rfl⟩)
          rw [roundsIn_succ]
          gi_wp2_with (refine ⟨trivial, ?_⟩; gi_at_call 105; refine (CallsIn.inRound l (callsIn_wide.2 (HC2 _))).mono ?_; rintro e w' ⟨rfl, rfl⟩)
          rw [roundsIn_succ]
          gi_wp2
          refine ⟨KeepsFrom.refl _ _, Below.refl _ _, ⟨HA1.out, HA2.out, HA3.out, HA4.out, HX.out _ rfl HS.out, a6⟩, HB.out⟩
  case done =>
    rintro D zs W hD hz ⟨⟨a1, a2, a3, a4, a5, a6⟩, hB1⟩ hKD
    have hnone : firstK s.data.toList = none := firstK_none.2 (fun r hr => by
      have hm : r ∈ zs.map (·.1) := by rw [hz]; exact List.mem_range.2 hr
      obtain ⟨y, hy, rfl⟩ := List.mem_map.1 hm
      exact a5 y hy)
    have hfz : fsz s.data.toList = 0 := by unfold fsz; rw [hnone]
    have HL := Lib.hid hnone
    have HF := Lib.hid hfz
    have HA2 := Lib.hid a2
    have HB := Lib.hid hB1
    clear hnone hfz hz a5
    have c3a := a3.cell 0
    have c3b := a3.cell 1
    have c3c := a3.cell 2
    have c4a := a4.cell 0
    have c2a := a2.cell 0
    have c2b := a2.cell 1
    have c2c := a2.cell 2
    have f2a := a2.frozen 0
    have f2b := a2.frozen 1
    have f2c := a2.frozen 2
    simp at c3a c3b c3c c4a c2a c2b c2c
    clear a1 a2 a3 a4 hB1
    refine hK _ _ ?_
    have hmix : Tryz.prog.follows .mixedOrders = true := by kernel_rfl
    have b2 := (((HA2.out.set 0 (.string ⟨#[]⟩)).set 1 (.string ⟨#[]⟩)).set 2 (.int .i64 0)).drew
    have hK1 := ((((KeepsOthers.setCell W ⟨h + 1, 0, none⟩ (.string ⟨#[]⟩)).trans (KeepsOthers.setCell _ ⟨h + 1, 1, none⟩ (.string ⟨#[]⟩))).trans (KeepsOthers.setCell _ ⟨h + 1, 2, none⟩ (.int .i64 0))).trans (KeepsOthers.drew _)).same D _ hKD rfl
    have hB2 := (((HB.out.setCell (p := ⟨h + 1, 0, none⟩) (by dsimp only; omega) (.string ⟨#[]⟩)).setCell (p := ⟨h + 1, 1, none⟩) (by dsimp only; omega) (.string ⟨#[]⟩)).setCell (p := ⟨h + 1, 2, none⟩) (by dsimp only; omega) (.int .i64 0)).drew
    have B2 := Lib.hid b2
    have K1 := Lib.hid hK1
    have HB2 := Lib.hid hB2
    clear b2 hK1 hB2
    gi_wp2
    gi_region
    all_goals
      gi_wp2
      try rw [Exit.noGoto_ret]
      have b2 := B2.out
      have hK1 := K1.out
      have hB2 := HB2.out
      refine ⟨by simp, .inl ⟨_, _, rfl, run_takeDeferred hK1, ?_⟩⟩
      clear B2 K1 HB2
      obtain ⟨V, hV⟩ : ∃ V, V = (((W.setCell ⟨h + 1, 0, none⟩ (.string ⟨#[]⟩)).setCell ⟨h + 1, 1, none⟩ (.string ⟨#[]⟩)).setCell ⟨h + 1, 2, none⟩ (.int .i64 0)).drew := ⟨_, rfl⟩
      rw [← hV] at hK1 b2 hB2 ⊢
      refine ⟨.tuple #[.agg #[.string ⟨#[]⟩, .string ⟨#[]⟩, .int .i64 0], .int .i64 0], ?_, ?_, ?_⟩
      · have g2 := (b2.kept (grownBy_putObj' V D (.deferred none)) (fun r e => by cases e; exact ⟨_, hK1, rfl⟩))
        have d0 := g2.cell 0
        have d1 := g2.cell 1
        have d2 := g2.cell 2
        simp at d0 d1 d2
        simp [results, Tryz.f115, go_sem, d0, d1, d2]
      · rw [HL.out, HF.out]; rfl
      · rw [← HH.out]
        exact hB2.trans (belowK_b (w := w) (Nat.le_of_eq HH.out) V D _ _ (by have := HH.out; omega) hK1 rfl rfl)
  case stop =>
    rintro D c pre W hD ⟨m, hm1, hz⟩ ⟨⟨rfl, ⟨x, pre', rfl, e2, e3, q1, q2⟩, q3, q4⟩, hB1⟩ hKD
    have hin := (inOrder_of hz).1
    obtain ⟨hi1, hi2⟩ := inOrder_snoc.1 hin
    have hsome : firstK s.data.toList = some x.1 := firstK_some.2 ⟨x.2, e2, fun r hr => by
      have hmem : r ∈ pre'.map (·.1) := by
        rw [show pre'.map (·.1) = List.range pre'.length from hi1]
        exact List.mem_range.2 (by omega)
      obtain ⟨y, hy, rfl⟩ := List.mem_map.1 hmem
      exact e3 y hy⟩
    obtain ⟨z, hzz⟩ : ∃ z, z = sz s.data.toList x.1 := ⟨_, rfl⟩
    have HF : Hid (fsz s.data.toList = z) := Lib.hid (by rw [fsz_some hsome, hzz])
    rw [← hzz] at q2
    obtain ⟨g, hgd⟩ : ∃ g, g = bs (gl x.1) := ⟨_, rfl⟩
    obtain ⟨d, hdd⟩ : ∃ d, d = bs (di x.1) := ⟨_, rfl⟩
    obtain ⟨c, hcd⟩ : ∃ c : Int, c = ((cl x.1 : Nat) : Int) := ⟨_, rfl⟩
    rw [← hgd, ← hdd, ← hcd] at q1
    have HL : Hid (optV (firstK s.data.toList) = .agg #[.string g, .string d, .int .i64 c]) := Lib.hid (by rw [hsome, hgd, hdd, hcd]; rfl)
    have HA2 := Lib.hid q3
    have HB := Lib.hid hB1
    clear hsome hin hi1 hi2 hz e2 e3 hzz hgd hdd hcd
    have c3a := q1.cell 0
    have c3b := q1.cell 1
    have c3c := q1.cell 2
    have c4a := q2.cell 0
    have c2a := q3.cell 0
    have c2b := q3.cell 1
    have c2c := q3.cell 2
    have f2a := q3.frozen 0
    have f2b := q3.frozen 1
    have f2c := q3.frozen 2
    simp at c3a c3b c3c c4a c2a c2b c2c
    clear q1 q2 q3 hB1
    have hmix : Tryz.prog.follows .mixedOrders = true := by kernel_rfl
    have b2 := (((HA2.out.set 0 (.string g)).set 1 (.string d)).set 2 (.int .i64 c)).drew
    have hK1 := ((((KeepsOthers.setCell W ⟨h + 1, 0, none⟩ (.string g)).trans (KeepsOthers.setCell _ ⟨h + 1, 1, none⟩ (.string d))).trans (KeepsOthers.setCell _ ⟨h + 1, 2, none⟩ (.int .i64 c))).trans (KeepsOthers.drew _)).same D _ hKD rfl
    have hB2 := (((HB.out.setCell (p := ⟨h + 1, 0, none⟩) (by dsimp only; omega) (.string g)).setCell (p := ⟨h + 1, 1, none⟩) (by dsimp only; omega) (.string d)).setCell (p := ⟨h + 1, 2, none⟩) (by dsimp only; omega) (.int .i64 c)).drew
    have B2 := Lib.hid b2
    have K1 := Lib.hid hK1
    have HB2 := Lib.hid hB2
    clear b2 hK1 hB2
    gi_wp2
    gi_region
    all_goals
      gi_wp2
      try rw [Exit.noGoto_ret]
      have b2 := B2.out
      have hK1 := K1.out
      have hB2 := HB2.out
      refine ⟨by simp, .inl ⟨_, _, rfl, run_takeDeferred hK1, ?_⟩⟩
      clear B2 K1 HB2
      obtain ⟨V, hV⟩ : ∃ V, V = (((W.setCell ⟨h + 1, 0, none⟩ (.string g)).setCell ⟨h + 1, 1, none⟩ (.string d)).setCell ⟨h + 1, 2, none⟩ (.int .i64 c)).drew := ⟨_, rfl⟩
      rw [← hV] at hK1 b2 hB2 ⊢
      refine ⟨.tuple #[.agg #[.string g, .string d, .int .i64 c], .int .i64 (z : Int)], ?_, ?_, ?_⟩
      · have g2 := (b2.kept (grownBy_putObj' V D (.deferred none)) (fun r e => by cases e; exact ⟨_, hK1, rfl⟩))
        have d0 := g2.cell 0
        have d1 := g2.cell 1
        have d2 := g2.cell 2
        simp at d0 d1 d2
        simp [results, Tryz.f115, go_sem, d0, d1, d2]
      · rw [HL.out, HF.out]
      · rw [← HH.out]
        exact hB2.trans (belowK_b (w := w) (Nat.le_of_eq HH.out) V D _ _ (by have := HH.out; omega) hK1 rfl rfl)
end Go.Proofs.YtdgffpcbpilkcaaGreatDoor
