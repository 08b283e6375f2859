/- A glyph's class: the first sign of this glyph. -/
import Derived.Test.YtdgffpcbpilkcaaGreatDoorGlFirst
namespace Go.Proofs.YtdgffpcbpilkcaaGreatDoor
open Go Go.RowKit Go.Shelf
attribute [local go_sem] Oper.semAt_some

/-- Which sign's glyph a text is. -/
def which (g : List UInt8) : Option Nat := (List.range 38).find? fun k => gl k == g
theorem which_none {g : List UInt8} : which g = none ↔ ∀ k, k < 38 → gl k ≠ g := by
  unfold which
  rw [List.find?_eq_none]
  constructor
  · intro h k hk e
    exact h k (List.mem_range.2 hk) (by simp [e])
  · intro h k hk e
    exact h k (List.mem_range.1 hk) (by simpa using e)
theorem which_some {g : List UInt8} {k : Nat} : which g = some k ↔ k < 38 ∧ gl k = g ∧ ∀ j, j < k → gl j ≠ g := by
  unfold which
  rw [List.find?_range_eq_some]
  simp
  constructor
  · rintro ⟨h1, h2, h3⟩; exact ⟨h2, h1, h3⟩
  · rintro ⟨h1, h2, h3⟩; exact ⟨h2, h1, h3⟩
theorem bs_inj {a b : List UInt8} (h : bs a = bs b) : a = b := by
  have := congrArg (fun x : ByteArray => x.data.toList) h
  simpa [bs] using this
theorem eqb_bs (a b : List UInt8) : ((bs a).toList == (bs b).toList) = (a == b) := by rw [ByteArray.toList_eq, ByteArray.toList_eq, bs_list, bs_list]
/-- The class of a text. -/
def cls (g : List UInt8) : Nat := match which g with
  | some k => cl k
  | none => 0

/-- The digraph of a text. -/
def dig (g : List UInt8) : List UInt8 := match which g with
  | some k => di k
  | none => []

set_option maxRecDepth 100000 in
set_option maxHeartbeats 4000000 in
theorem signOf_c (T : List UInt8) (w : World) (hG : Ground w) :
    Calls Tryz.prog 112 #[.string (bs T)] w fun e W' => e = .returned (optV (which T)) ∧ Below w.heap.size w W' := by
  refine (callsIn_wide (n := 5)).1 ?_
  refine callsIn_of_wp_marks Tryz.func112 rfl trivial ?_ rfl
  simp only [Tryz.ntmps112, List.size_toArray, List.length_cons, List.length_nil, Nat.reduceAdd, Nat.reduceSub, Array.replicate_succ, Array.replicate_zero, List.push_toArray, List.append_toArray, List.nil_append, List.cons_append]
  gi_wp2_with (refine ⟨trivial, ?_⟩; gi_at_call 116; refine (signs_in _ _).mono ?_; rintro e w' ⟨rfl, rfl⟩)
  rename_i Q' K hK
  obtain ⟨h, hh⟩ : ∃ h, h = w.heap.size := ⟨_, rfl⟩
  obtain ⟨W0, hW0⟩ : ∃ W0, ((w.alloc (.cells #[.string (bs T)] 9)).alloc (.cells #[.string ⟨#[]⟩, .string ⟨#[]⟩, .int .i64 0] 172)) = W0 := ⟨_, rfl⟩
  have r0 : Row W0 (w.heap.size) 9 #[.string (bs T)] := by rw [← hW0]; exact (Row.new _ _ _).alloc _
  have r1 : Row W0 (w.heap.size + 1) 172 #[.string ⟨#[]⟩, .string ⟨#[]⟩, .int .i64 0] := by rw [← hW0]; exact Row.at _ _ _ _ (by simp)
  have hB0 : Below w.heap.size w W0 := by rw [← hW0]; exact ((Below.refl _ w).alloc (Nat.le_refl _) _).alloc (by simp) _
  have hsz : W0.heap.size = w.heap.size + 2 := by rw [← hW0]; simp
  have hG0 := hG.below hB0
  have hgl := hG.lt
  rw [hW0]
  clear hW0
  rw [← hh] at r0 r1 hB0 hsz hgl ⊢
  have HH := Lib.hid hh
  have hsz1 : h + 2 ≤ W0.heap.size := by omega
  clear hh hsz
  refine wpIn_rangeFunc_ownB rfl (by omega) (gf := 121) (lb := #[]) rfl trivial (enters_of Tryz.func121 (by kernel_rfl) rfl)
    (signs_stops 4 (by omega) h hgl W0 hG0.lt hG0.tab) Below.trans (fun W l o o' hl ho hc hw => belowK_b (w := W0) (by omega) W l o o' hl ho hc hw) (Below.refl _ _) (fun _ => rfl)
    (fun pre W => (Row W h 9 #[.string (bs T)] ∧ Row W (h + 1) 172 #[.string ⟨#[]⟩, .string ⟨#[]⟩, .int .i64 0] ∧ (∀ y ∈ pre, gl y.1 ≠ T) ∧ h + 2 ≤ W.heap.size) ∧ Below h w W)
    (fun c pre W => (c = .ret ∧ (∃ (x : Ix 38) (pre' : List (Ix 38)), pre = pre' ++ [x] ∧ gl x.1 = T ∧ (∀ y ∈ pre', gl y.1 ≠ T) ∧
        Row W (h + 1) 172 #[.string (bs (gl x.1)), .string (bs (di x.1)), .int .i64 ((cl x.1 : Nat) : Int)]) ∧ h + 2 ≤ W.heap.size) ∧ Below h w W)
    (fun p X Y hs hb => ⟨⟨hs.1.1.below hb (by omega), hs.1.2.1.below hb (by omega), hs.1.2.2.1, Nat.le_trans hs.1.2.2.2 hb.size⟩, hs.2.trans (hb.mono (by omega))⟩)
    (fun c p X Y hs hb => by
      obtain ⟨⟨e, ⟨x, pre', e1, e2, e3, q1⟩, q4⟩, h2⟩ := hs
      exact ⟨⟨e, ⟨x, pre', e1, e2, e3, q1.below hb (by omega)⟩, Nat.le_trans q4 hb.size⟩, h2.trans (hb.mono (by omega))⟩)
    ⟨⟨r0, r1, (fun x hx => by cases hx), by omega⟩, hB0⟩
    (fun x a' W => ∃ Bx, h + 2 ≤ Bx ∧ Row W Bx 172 #[.string (bs (gl x.1)), .string (bs (di x.1)), .int .i64 ((cl x.1 : Nat) : Int)] ∧ a' = { tmps := #[.string (bs T), .pointer (some ⟨h, 0, none⟩), .pointer (some ⟨h + 1, 0, none⟩), .pointer (some ⟨Bx, 0, none⟩), .func (.func 121) #[] #[], signV x.1, undef, undef, undef, undef, undef, undef], defers := [] })
    (fun x a' _ X Y row hs hg hr => by obtain ⟨Bx, h1, h2, h3⟩ := hs; exact ⟨Bx, h1, h2.kept hg (fun r e => (hr r e).2), h3⟩)
    ?assign ?body ?done ?stop
  case assign =>
    rintro l pre x W K' ⟨⟨a1, a2, a5, a6⟩, hB1⟩ hsW hK'
    dsimp only [encG, signV]
    gi_wp2
    exact hK' _ _ ((KeepsOthers.alloc _ _).from _) ((Below.refl _ _).alloc (by omega) _) ⟨⟨a1.alloc _, a2.alloc _, a5, by rw [World.size_alloc]; omega⟩, hB1.alloc (by omega) _⟩ ⟨W.heap.size, a6, Row.new W _ _, rfl⟩
  case body =>
    rintro l pre x a' W hl ⟨r, hr⟩ ⟨⟨a1, a2, a5, a6⟩, hB1⟩ ⟨Bx, hBx, bX, rfl⟩ hlt
    have A5 := Lib.hid a5
    have hbx := bX.lt
    have c0 := a1.cell 0
    have c1 := bX.cell 0
    have c2 := bX.cell 1
    have c3 := bX.cell 2
    simp at c0 c1 c2 c3
    obtain ⟨g, hgd⟩ : ∃ g, g = bs (gl x.1) := ⟨_, rfl⟩
    obtain ⟨d, hdd⟩ : ∃ d, d = bs (di x.1) := ⟨_, rfl⟩
    obtain ⟨c, hcd⟩ : ∃ c : Int, c = ((cl x.1 : Nat) : Int) := ⟨_, rfl⟩
    obtain ⟨s, hsd⟩ : ∃ s, s = bs T := ⟨_, rfl⟩
    dsimp only [signV]
    rw [← hgd, ← hdd, ← hcd] at bX ⊢
    rw [← hgd] at c1
    rw [← hdd] at c2
    rw [← hcd] at c3
    rw [← hsd] at c0 a1 ⊢
    have hgs : (g.toList == s.toList) = (gl x.1 == T) := by rw [hgd, hsd, eqb_bs]
    have HX : Hid ((gl x.1 == T) = false → ∀ y ∈ pre ++ [x], gl y.1 ≠ T) := Lib.hid (fun e y hy => by
      rcases List.mem_append.1 hy with h1 | h1
      · exact A5.out y h1
      · rw [List.mem_singleton.1 h1]; simpa using e)
    have HGD := Lib.hid hgd
    have HDD := Lib.hid hdd
    have HCD := Lib.hid hcd
    have HSD := Lib.hid hsd
    have HA1 := Lib.hid a1
    have HA2 := Lib.hid a2
    have HBX := Lib.hid bX
    have HB := Lib.hid hB1
    have c2a := a2.cell 0
    have c2b := a2.cell 1
    have c2c := a2.cell 2
    have f2a := a2.frozen 0
    have f2b := a2.frozen 1
    have f2c := a2.frozen 2
    simp at c2a c2b c2c
    clear hcd hgd hdd hsd a5 hr a1 a2 bX hB1
    cases hb : (gl x.1 == T) with
    | true =>
      rw [hb] at hgs
      have HXY : Hid (gl x.1 = T) := Lib.hid (by simpa using hb)
      clear hb
      gi_wp2
      refine ⟨(((KeepsOthers.setCell _ _ _).trans (KeepsOthers.setCell _ _ _)).trans (KeepsOthers.setCell _ _ _)).from _, ⟨rfl, ⟨x, pre, rfl, HXY.out, A5.out, ?_⟩, ?_⟩, ?_⟩
      · rw [← HCD.out, ← HGD.out, ← HDD.out]; exact ((HA2.out.set 0 _).set 1 _).set 2 _
      · simp; omega
      · exact ((HB.out.setCell (by dsimp only; omega) _).setCell (by dsimp only; omega) _).setCell (by dsimp only; omega) _
    | false =>
      rw [hb] at hgs
      have HN := Lib.hid (HX.out hb)
      clear hb
      gi_wp2
      exact ⟨KeepsFrom.refl _ _, Below.refl _ _, ⟨HA1.out, HA2.out, HN.out, a6⟩, HB.out⟩
  case done =>
    rintro D zs W hD hz ⟨⟨a1, a2, a5, a6⟩, hB1⟩ hKD
    have hnone : which T = none := which_none.2 (fun r hr => by
      have hm : r ∈ zs.map (·.1) := by rw [hz]; exact List.mem_range.2 hr
      obtain ⟨y, hy, rfl⟩ := List.mem_map.1 hm
      exact a5 y hy)
    have HL := Lib.hid hnone
    have HA2 := Lib.hid a2
    have HB := Lib.hid hB1
    clear hnone hz a5
    have c2a := a2.cell 0
    have c2b := a2.cell 1
    have c2c := a2.cell 2
    have f2a := a2.frozen 0
    have f2b := a2.frozen 1
    have f2c := a2.frozen 2
    simp at c2a c2b c2c
    clear a1 a2 hB1
    refine hK _ _ ?_
    gi_wp2
    have b2 := ((HA2.out.set 0 (.string ⟨#[]⟩)).set 1 (.string ⟨#[]⟩)).set 2 (.int .i64 0)
    have hK1 := (((KeepsOthers.setCell W ⟨h + 1, 0, none⟩ (.string ⟨#[]⟩)).trans (KeepsOthers.setCell _ ⟨h + 1, 1, none⟩ (.string ⟨#[]⟩))).trans (KeepsOthers.setCell _ ⟨h + 1, 2, none⟩ (.int .i64 0))).same D _ hKD rfl
    have hB2 := ((HB.out.setCell (p := ⟨h + 1, 0, none⟩) (by dsimp only; omega) (.string ⟨#[]⟩)).setCell (p := ⟨h + 1, 1, none⟩) (by dsimp only; omega) (.string ⟨#[]⟩)).setCell (p := ⟨h + 1, 2, none⟩) (by dsimp only; omega) (.int .i64 0)
    obtain ⟨V, hV⟩ : ∃ V, V = ((W.setCell ⟨h + 1, 0, none⟩ (.string ⟨#[]⟩)).setCell ⟨h + 1, 1, none⟩ (.string ⟨#[]⟩)).setCell ⟨h + 1, 2, none⟩ (.int .i64 0) := ⟨_, rfl⟩
    rw [← hV] at hK1 b2 hB2 ⊢
    refine ⟨by simp, .inl ⟨_, _, rfl, run_takeDeferred hK1, ?_⟩⟩
    refine ⟨.agg #[.string ⟨#[]⟩, .string ⟨#[]⟩, .int .i64 0], ?_, ?_, ?_⟩
    · have g2 := (b2.kept (grownBy_putObj' V D (.deferred none)) (fun r e => by cases e; exact ⟨_, hK1, rfl⟩))
      have d0 := g2.cell 0
      have d1 := g2.cell 1
      have d2 := g2.cell 2
      simp at d0 d1 d2
      simp [results, Tryz.f112, go_sem, d0, d1, d2]
    · rw [HL.out]; rfl
    · rw [← HH.out]
      exact hB2.trans (belowK_b (w := w) (Nat.le_of_eq HH.out) V D _ _ (by have := HH.out; omega) hK1 rfl rfl)
  case stop =>
    rintro D c pre W hD ⟨m, hm1, hz⟩ ⟨⟨rfl, ⟨x, pre', rfl, e2, e3, q1⟩, q4⟩, hB1⟩ hKD
    have hin := (inOrder_of hz).1
    obtain ⟨hi1, hi2⟩ := inOrder_snoc.1 hin
    have hsome : which T = some x.1 := which_some.2 ⟨x.2, e2, fun r hr => by
      have hmem : r ∈ pre'.map (·.1) := by
        rw [show pre'.map (·.1) = List.range pre'.length from hi1]
        exact List.mem_range.2 (by omega)
      obtain ⟨y, hy, rfl⟩ := List.mem_map.1 hmem
      exact e3 y hy⟩
    have HL := Lib.hid hsome
    gi_wp2
    refine ⟨by simp, .inl ⟨_, _, rfl, run_takeDeferred hKD, ?_⟩⟩
    refine ⟨.agg #[.string (bs (gl x.1)), .string (bs (di x.1)), .int .i64 ((cl x.1 : Nat) : Int)], ?_, ?_, ?_⟩
    · have g2 := (q1.kept (grownBy_putObj' W D (.deferred none)) (fun r e => by cases e; exact ⟨_, hKD, rfl⟩))
      have d0 := g2.cell 0
      have d1 := g2.cell 1
      have d2 := g2.cell 2
      simp at d0 d1 d2
      simp [results, Tryz.f112, go_sem, d0, d1, d2]
    · rw [HL.out]; rfl
    · rw [← HH.out]
      exact hB1.trans (belowK_b (w := w) (Nat.le_of_eq HH.out) W D _ _ (by have := HH.out; omega) hKD rfl rfl)

/-- The sign's cells, as bytes. -/
theorem optV_agg (T : List UInt8) : ∃ (g d : ByteArray) (c : Int), optV (which T) = .agg #[.string g, .string d, .int .i64 c] ∧ c = ((cls T : Nat) : Int) ∧ d = bs (dig T) := by
  unfold cls dig
  cases which T with
  | none => exact ⟨⟨#[]⟩, ⟨#[]⟩, 0, rfl, rfl, rfl⟩
  | some k => exact ⟨_, _, _, rfl, rfl, rfl⟩

theorem class_c (T : List UInt8) (w : World) (hG : Ground w) :
    Calls Tryz.prog 104 #[.string (bs T)] w fun e W' => e = .returned (.int .i64 ((cls T : Nat) : Int)) ∧ Below w.heap.size w W' := by
  have hF := signOf_c T w hG
  obtain ⟨g, d, c, hv, hc, hd⟩ := optV_agg T
  clear hd
  rw [hv] at hF
  rw [← hc]
  have HF := Lib.hid hF
  have i2 : ∀ w : World, (Instr.field 172 (.agg #[.string g, .string d, .int .i64 c]) 2).run Tryz.prog w = .ok (.int .i64 c) w := fun _ => by kernel_rfl
  clear hF hv hc
  go_enter Tryz.func104, Tryz.ntmps104
  go_wp2_with (go_at_call 112; refine HF.out.mono ?_; rintro e w1 ⟨rfl, hb1⟩; have HB1 := Lib.hid hb1; clear hb1)
  go_ret
  exact ⟨rfl, HB1.out⟩
end Go.Proofs.YtdgffpcbpilkcaaGreatDoor
