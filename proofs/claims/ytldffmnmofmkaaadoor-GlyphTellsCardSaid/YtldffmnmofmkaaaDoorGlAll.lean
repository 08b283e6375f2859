/- All the glyphs. -/
import Derived.Test.YtldffmnmofmkaaaDoorGlClass
import Derived.OwnWalkIn
import Derived.Maps.AppendAt
namespace Go.Proofs.YtldffmnmofmkaaaDoor
open Go Go.RowKit Go.Shelf
attribute [local go_sem] Oper.semAt_some

theorem own_belowN {n : Nat} {w w' : World} {base g cap : Nat} {e : TypeId} {k l : Nat} {xs : List Value} (h : w.ownsRow base e 1 (.slice (some ⟨g, 0, none⟩) k cap) l xs) (hb : Below n w w') (hg : g < n) : w'.ownsRow base e 1 (.slice (some ⟨g, 0, none⟩) k cap) l xs := by
  refine ⟨h.1, ?_⟩
  rcases h.2 with ⟨h0, _⟩ | ⟨g', cap', cur, e1, e2, e3, e4⟩
  · cases h0
  · cases e1
    exact .inr ⟨g, _, cur, rfl, e2, (hb.block g hg).trans e3, e4⟩
/-- The glyphs that were gone through. -/
def glyphsOf (pre : List (Ix 38)) : List Value := pre.map fun x => .string (bs (gl x.1))

theorem info_parts' {o : Option TypeInfo} {z : Value} {s b : Nat} (h : o.map (fun i => (i.zero, i.size, i.bytes)) = some (some z, s, b)) : ∃ i, o = some i ∧ i.zero = some z ∧ i.size = s ∧ i.bytes = b := by
  cases o with
  | none => cases h
  | some i =>
    simp at h
    exact ⟨i, rfl, h.1, h.2.1, h.2.2⟩
theorem Tryd.infoStr : (Tryd.prog.info? 9).map (fun i => (i.zero, i.size, i.bytes)) = some (some (.string ⟨#[]⟩), 1, 16) := by kernel_rfl

set_option maxRecDepth 100000 in
set_option maxHeartbeats 4000000 in
theorem all_c (w : World) (hG : Ground w) :
    Calls Tryd.prog 16 #[] w fun e W' => e = .returned (.slice (some ⟨w.heap.size, 0, none⟩) 38 38) ∧ (∀ k, k < 38 → W'.cell? ⟨w.heap.size, k, none⟩ = some (.string (bs (gl k)))) ∧ w.heap.size < W'.heap.size ∧ Below w.heap.size w W' := by
  obtain ⟨i0, hi, hz0, hz1, hz2⟩ := info_parts' Tryd.infoStr
  refine (callsIn_wide (n := 5)).1 ?_
  refine callsIn_of_wp_marks Tryd.func16 rfl trivial ?_ rfl
  simp only [Tryd.ntmps16, List.size_toArray, List.length_nil, Nat.reduceSub, Array.replicate_succ, Array.replicate_zero, List.push_toArray, List.append_toArray, List.nil_append, List.cons_append]
  gi_wp2_with (first
    | (gi_at_make; refine wpListIn_make_own _ rfl _ _ 29 rfl w.heap.size 9 i0 (.string ⟨#[]⟩) 1 Tryd.underlying29 hi hz0 hz1 .i64 .i64 38 38 rfl rfl rfl (by rw [hz2]; decide) (by decide) (Nat.le_refl _) ?_; intro w1 how1 hgw1; have HO1 := Lib.hid how1; have HG1 := Lib.hid hgw1; clear how1 hgw1)
    | (refine ⟨trivial, ?_⟩; gi_at_call 28; refine (signs_in _ _).mono ?_; rintro e w' ⟨rfl, rfl⟩))
  rename_i Q' K hK
  obtain ⟨h, hh⟩ : ∃ h, h = w.heap.size := ⟨_, rfl⟩
  obtain ⟨B, hBd⟩ : ∃ B, B = w1.heap.size := ⟨_, rfl⟩
  have hhB : w.heap.size < w1.heap.size := by
    rcases HO1.out.2 with ⟨h0, _⟩ | ⟨g', cap', cur, e1, e2, e3, e4⟩
    · cases h0
    · cases e1; exact (Array.getElem?_eq_some_iff.1 e3).1
  obtain ⟨W0, hW0⟩ : ∃ W0, w1.alloc (.cells #[.slice (some ⟨w.heap.size, 0, none⟩) 0 38] 29) = W0 := ⟨_, rfl⟩
  have r1 : Row W0 w1.heap.size 29 #[.slice (some ⟨w.heap.size, 0, none⟩) 0 38] := by rw [← hW0]; exact Row.new _ _ _
  have o1 : W0.ownsRow w.heap.size 9 1 (.slice (some ⟨w.heap.size, 0, none⟩) 0 38) 0 [] := by rw [← hW0]; exact HO1.out.alloc _
  have hB0 : Below w.heap.size w W0 := by rw [← hW0]; exact ((Below.refl _ w).grown HG1.out (Nat.le_refl _) (fun k e => by cases e)).alloc (by omega) _
  have hsz : W0.heap.size = w1.heap.size + 1 := by rw [← hW0]; simp
  have hG0 := hG.below hB0
  have hgl := hG.lt
  rw [hW0]
  clear hW0
  rw [← hh, ← hBd] at r1
  rw [← hh] at o1 hB0 hgl ⊢
  rw [← hBd] at hsz ⊢
  rw [← hh, ← hBd] at hhB
  have HH := Lib.hid hh
  have hsz1 : B + 1 ≤ W0.heap.size := by omega
  clear hh hsz hBd
  refine wpIn_rangeFunc_ownB rfl (by omega) (gf := 34) (lb := #[]) rfl trivial (enters_of Tryd.func34 (by kernel_rfl) rfl)
    (signs_stops 4 (by omega) h hgl W0 hG0.lt hG0.tab) Below.trans (fun W l o o' hl ho hc hw => belowK_b (w := W0) (by omega) W l o o' hl ho hc hw) (Below.refl _ _) (fun _ => rfl)
    (fun pre W => (Row W B 29 #[.slice (some ⟨h, 0, none⟩) pre.length 38] ∧ W.ownsRow h 9 1 (.slice (some ⟨h, 0, none⟩) pre.length 38) pre.length (glyphsOf pre) ∧ B + 1 ≤ W.heap.size) ∧ Below h w W)
    (fun _ _ _ => False)
    (fun p X Y hs hb => ⟨⟨hs.1.1.below hb (by omega), own_belowN hs.1.2.1 hb (by omega), Nat.le_trans hs.1.2.2 hb.size⟩, hs.2.trans (hb.mono (by omega))⟩)
    (fun _ _ _ _ hs _ => hs)
    ⟨⟨r1, o1, by omega⟩, hB0⟩
    (fun x a' W => ∃ Bx, B + 1 ≤ Bx ∧ Row W Bx 36 #[.string (bs (gl x.1)), .string (bs (di x.1)), .int .i64 ((cl x.1 : Nat) : Int)] ∧ a' = { tmps := #[.slice none 0 0, .pointer (some ⟨B, 0, none⟩), .pointer (some ⟨Bx, 0, none⟩), .slice (some ⟨h, 0, none⟩) 0 38, .func (.func 34) #[] #[], signV x.1, undef, undef, undef, undef, undef, undef], defers := [] })
    (fun x a' _ X Y row hs hg hr => by obtain ⟨Bx, h1, h2, h3⟩ := hs; exact ⟨Bx, h1, h2.kept hg (fun r e => (hr r e).2), h3⟩)
    ?assign ?body ?done ?stop
  case assign =>
    rintro l pre x W K' ⟨⟨a1, a2, a6⟩, hB1⟩ hsW hK'
    dsimp only [encG, signV]
    gi_wp2
    exact hK' _ _ ((KeepsOthers.alloc _ _).from _) ((Below.refl _ _).alloc (by omega) _) ⟨⟨a1.alloc _, a2.alloc _, by rw [World.size_alloc]; omega⟩, hB1.alloc (by omega) _⟩ ⟨W.heap.size, a6, Row.new W _ _, rfl⟩
  case body =>
    rintro l pre x a' W hl ⟨r, hr⟩ ⟨⟨a1, a2, a6⟩, hB1⟩ ⟨Bx, hBx, bX, rfl⟩ hlt
    have hbx := bX.lt
    have c0 := a1.cell 0
    have f0 := a1.frozen 0
    have c1 := bX.cell 0
    simp at c0 c1
    obtain ⟨g, hgd⟩ : ∃ g, g = bs (gl x.1) := ⟨_, rfl⟩
    dsimp only [signV]
    rw [← hgd] at c1 ⊢
    have HGD := Lib.hid hgd
    have HA1 := Lib.hid a1
    have HA2 := Lib.hid a2
    have HB := Lib.hid hB1
    clear hgd hr a1 a2 bX hB1
    gi_wp2_with (gi_at_builtin; refine wpListIn_append_fits _ rfl _ _ 29 rfl h 9 i0 1 Tryd.underlying29 hi hz1 h pre.length 38 (glyphsOf pre) rfl (HA2.out.alloc _) ⟨W.heap.size, 0, none⟩ 1 1 [.string g] rfl rfl (cell_one_new _ _ _) (by simp [Value.oneCell']) (by omega) ?_; intro w3 how3 hgw3; have HO3 := Lib.hid how3; have HG3 := Lib.hid hgw3; have a3 : Row w3 B 29 #[.slice (some ⟨h, 0, none⟩) pre.length 38] := (hgw3.block B (HA1.out.alloc _).lt (fun e => by cases e; omega)).trans (HA1.out.alloc _); have HA3 := Lib.hid a3; have c3 := a3.cell 0; have f3 := a3.frozen 0; simp at c3; clear how3 hgw3 a3)
    have hS3 := HG3.out.size
    rw [World.size_alloc] at hS3
    have hb3 : Below h W w3 := ((Below.refl h W).alloc (by omega) _).grown HG3.out (by rw [World.size_alloc]; omega) (fun k e => by cases e; exact Nat.le_refl _)
    refine ⟨⟨by rw [World.size_setCell]; omega, fun k o hk ho hc => ?_⟩, hb3.setCell (by dsimp only; omega) _, ⟨?_, ?_, by rw [World.size_setCell]; omega⟩, (HB.out.trans hb3).setCell (by dsimp only; omega) _⟩
    · have hk2 : k < W.heap.size := (Array.getElem?_eq_some_iff.1 ho).1
      rw [Below.heap_setCell w3 _ _ k (by dsimp only; omega), HG3.out.block k (by rw [World.size_alloc]; omega) (fun e => by cases e; omega), Below.heap_alloc W _ k hk2]
      exact ho
    · rw [List.length_append, List.length_singleton]
      exact HA3.out.set 0 _
    · rw [List.length_append, List.length_singleton]
      have e1 : glyphsOf (pre ++ [x]) = glyphsOf pre ++ [.string g] := by simp [glyphsOf, HGD.out]
      rw [e1]
      refine ⟨HO3.out.1, ?_⟩
      rcases HO3.out.2 with ⟨h0, _⟩ | ⟨g', cap', cur, q1, q2, q3, q4⟩
      · cases h0
      · cases q1
        exact .inr ⟨h, _, cur, rfl, q2, (Below.heap_setCell w3 _ _ h (by dsimp only; omega)).trans q3, q4⟩
  case done =>
    rintro D zs W hD hz ⟨⟨a1, a2, a6⟩, hB1⟩ hKD
    have hlen : zs.length = 38 := by have := congrArg List.length hz; simpa using this
    have hall : ∀ k, k < 38 → (glyphsOf zs)[k]? = some (.string (bs (gl k))) := fun k hk => by
      have e1 : glyphsOf zs = (zs.map (·.1)).map fun k => Value.string (bs (gl k)) := by simp [glyphsOf]
      rw [e1, hz]
      simp [hk]
    rw [hlen] at a1 a2
    have HL := Lib.hid hall
    have HA2 := Lib.hid a2
    have HB := Lib.hid hB1
    have c0 := a1.cell 0
    simp at c0
    clear hz hall a2 hB1
    refine hK _ _ ?_
    gi_wp2
    refine ⟨by simp, .inl ⟨_, _, rfl, run_takeDeferred hKD, ?_⟩⟩
    rcases HA2.out.2 with ⟨h0, _⟩ | ⟨g', cap', cur, q1, q2, q3, q4, q5, q6, q7⟩
    · cases h0
    cases q1
    have hlt := (Array.getElem?_eq_some_iff.1 q3).1
    refine ⟨_, results_tmp rfl _ _ _, by rw [← HH.out]; rfl, fun k hk => ?_, ?_, ?_⟩
    · rw [← HH.out]
      have hq : Row W h 9 cur := q3
      have g2 := hq.kept (grownBy_putObj' W D (.deferred none)) (fun r e => by cases e; exact ⟨_, hKD, rfl⟩)
      rw [g2.cell]
      have := HL.out k hk
      rw [← q7, List.getElem?_take] at this
      simpa [hk] using this
    · rw [← HH.out]
      exact Nat.lt_of_lt_of_le hlt (grownBy_putObj' W D (.deferred none)).size
    · rw [← HH.out]
      exact HB.out.trans (belowK_b (w := w) (Nat.le_of_eq HH.out) W D _ _ (by have := HH.out; omega) hKD rfl rfl)
  case stop =>
    rintro D c pre W hD _ hf _
    exact hf.elim
end Go.Proofs.YtldffmnmofmkaaaDoor
