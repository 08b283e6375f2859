/- A glyph that is a token by itself. -/
import Derived.Test.YtdgffpcbpilkcaaGreatDoorLxOther
import Derived.Test.YtdgffpcbpilkcaaGreatDoorLxMap
import Derived.Test.YtdgffpcbpilkcaaGreatDoorLxFirstOf
import Derived.Deep.RegionHeldLaw
namespace Go.Proofs.YtdgffpcbpilkcaaGreatDoor
open Go Go.RowKit Go.Shelf
attribute [local go_sem] Oper.semAt_some

/-- A LEXER IN MEMORY: what is left, and the kinds. -/
structure Lexer (W : World) (B m : Nat) (T : List UInt8) : Prop where
  row : Row W B 148 #[.string (bs T), .map (some m)]
  kinds : KindsAt W m
  lt : m < W.heap.size
theorem Lexer.belowN {n B m : Nat} {W W' : World} {T : List UInt8} (h : Lexer W B m T) (hb : Below n W W') (h1 : B < n) (h2 : m < n) : Lexer W' B m T :=
  ⟨h.row.below hb h1, (hb.block m h2).trans h.kinds, Nat.lt_of_lt_of_le h.lt hb.size⟩
theorem Lexer.below {B m : Nat} {W W' : World} {T : List UInt8} (h : Lexer W B m T) (hb : Below W.heap.size W W') : Lexer W' B m T := h.belowN hb h.row.lt h.lt
theorem Lexer.left {B m : Nat} {W : World} {T : List UInt8} (h : Lexer W B m T) : W.cell? ⟨B, 0, none⟩ = some (.string (bs T)) := by rw [h.row.cell]; rfl
theorem Lexer.map {B m : Nat} {W : World} {T : List UInt8} (h : Lexer W B m T) : W.cell? ⟨B, 1, none⟩ = some (.map (some m)) := by rw [h.row.cell]; rfl
theorem kindC_le (c : Nat) : kindC c ≤ 9 := by unfold kindC; (repeat' split) <;> omega

set_option maxRecDepth 100000 in
set_option maxHeartbeats 4000000 in
/-- sign(). -/
theorem sign_c (T : List UInt8) (hT : T.length ≤ 10000) (B m : Nat) (w : World) (hG : LG w) (hL : Lexer w B m T) :
    Calls Tryz.prog 95 #[.pointer (some ⟨B, 0, none⟩)] w fun e W' => e = .returned (tokV (rS T)) ∧ Below w.heap.size w W' := by
  have hN := fun W h => nextGlyph_c T W h
  have hC := fun W h => class_c (glT T) W h
  rw [cls_glT] at hC
  have hcl := clsT_le T
  have hfz := fsz_le T
  obtain ⟨c, hc⟩ : ∃ c, c = clsT T := ⟨_, rfl⟩
  obtain ⟨z, hz⟩ : ∃ z, z = fsz T := ⟨_, rfl⟩
  obtain ⟨g, hg⟩ : ∃ g, g = bs (glT T) := ⟨_, rfl⟩
  obtain ⟨s, hs⟩ : ∃ s, s = bs T := ⟨_, rfl⟩
  obtain ⟨U, hU⟩ : ∃ U, U = bs (T.take z) := ⟨_, rfl⟩
  obtain ⟨k, hk⟩ : ∃ k, k = kindC c := ⟨_, rfl⟩
  have hkl : k ≤ 9 := by rw [hk]; exact kindC_le c
  have hK := fun W => token_k T k z (glT T) hT (by rw [hz]; exact hfz) s U g (k : Int) hs hU hg rfl W
  have hRS : rS T = if k = 0 then noTk else ⟨k, T.take z, glT T⟩ := by rw [hk, hz, hc]; rfl
  have hlook := fun W hW => look W m c hW (by rw [hc]; exact hcl)
  have hzs : z ≤ s.size := by rw [hz, hs, bs_size]; exact hfz
  have hs1 : s.size ≤ 10000 := by rw [hs, bs_size]; exact hT
  have hLf : ∀ {W}, Lexer W B m T → W.cell? ⟨B, 0, none⟩ = some (.string s) := fun h => by rw [hs]; exact h.left
  rw [← hk] at hlook
  rw [← hz, ← hg, ← hs] at hN
  rw [← hg, ← hc] at hC
  obtain ⟨W0, hW0⟩ : ∃ W0, W0 = w.alloc (.cells #[.int .i64 0, .string ⟨#[]⟩, .string ⟨#[]⟩] 55) := ⟨_, rfl⟩
  have r0 : Row W0 w.heap.size 55 #[.int .i64 0, .string ⟨#[]⟩, .string ⟨#[]⟩] := by rw [hW0]; exact Row.new _ _ _
  have hb0 : Below w.heap.size w W0 := by rw [hW0]; exact (Below.refl _ w).alloc (Nat.le_refl _) _
  have hL0 := hL.below hb0
  have hG0 := hG.below hb0
  have c0 := hLf hL0
  have m0 := hL0.map
  have HN := Lib.hid hN
  have HC := Lib.hid hC
  have HK := Lib.hid hK
  have HLK := Lib.hid hlook
  have HLF : Hid (∀ W, Lexer W B m T → W.cell? ⟨B, 0, none⟩ = some (.string s)) := Lib.hid (fun W h => hLf h)
  have R0 := Lib.hid r0
  have B0 := Lib.hid hb0
  have L0 := Lib.hid hL0
  have G0 := Lib.hid hG0
  have HU := Lib.hid hU
  have HGG := Lib.hid hg
  have hBl : B < w.heap.size := hL.row.lt
  subst hW0
  clear hN hC hK hlook hLf r0 hb0 hL0 hG0 hL hG hU hg hs hk hc hz hcl hfz hT
  by_cases h0 : k = 0
  · subst h0
    rw [if_pos rfl] at hRS
    rw [hRS]
    clear hRS
    go_enter Tryz.func95, Tryz.ntmps95
    go_wp2_with (go_at_call 103; refine (HN.out _ G0.out.gl).mono ?_; rintro e w1 ⟨rfl, hb1⟩; have L1 := Lib.hid (L0.out.below hb1); have G1 := Lib.hid (G0.out.below hb1); have R1 := Lib.hid (tokrow_next R0.out hb1); have B1 := Lib.hid (B0.out.trans (hb1.mono (Nat.le_of_lt R0.out.lt))); have c1 := HLF.out _ L1.out; have m1 := L1.out.map; clear hb1)
    have LD := Lib.hid (L1.out.below (Below.refl _ w1).drew)
    have GD := Lib.hid (G1.out.below (Below.refl _ w1).drew)
    have m1d := LD.out.map
    go_region_held_law (fun w' => w'.cell? ⟨B, 1, none⟩ = some (.map (some m)))
      (first
        | exact L3.out.map
        | exact LD.out.map
        | go_keep)
      ((go_at_call 104; refine (HC.out _ GD.out.gl).mono ?_; rintro e w3 ⟨rfl, hb3⟩; have L3 := Lib.hid (LD.out.below hb3); have R3 := Lib.hid (tokrow_next R1.out.drew hb3); have B3 := Lib.hid (B1.out.drew.trans (hb3.mono (Nat.le_of_lt R1.out.lt))); have G3 := Lib.hid (GD.out.below hb3); have hl3 := HLK.out _ L3.out.kinds; have m3 := L3.out.map; have c3 := HLF.out _ L3.out; obtain ⟨d0, d1, d2, f0, f1, f2⟩ := tok_cells R3.out; clear hb3))
    go_wp2
    exact tok_ret (j := 2) rfl rfl rfl (tok_set R3.out _ _ _) (by simp [tokC, noTk, bs_nil]) ⟨rfl, below_set3 B3.out _ _ _ (by simp) (by simp) (by simp) _ _ _⟩
  · rw [if_neg h0] at hRS
    rw [hRS]
    have hkb : (k != 0) = true := by simpa using h0
    clear hRS h0
    go_enter Tryz.func95, Tryz.ntmps95
    go_wp2_with (go_at_call 103; refine (HN.out _ G0.out.gl).mono ?_; rintro e w1 ⟨rfl, hb1⟩; have L1 := Lib.hid (L0.out.below hb1); have G1 := Lib.hid (G0.out.below hb1); have R1 := Lib.hid (tokrow_next R0.out hb1); have B1 := Lib.hid (B0.out.trans (hb1.mono (Nat.le_of_lt R0.out.lt))); have c1 := HLF.out _ L1.out; have m1 := L1.out.map; clear hb1)
    have LD := Lib.hid (L1.out.below (Below.refl _ w1).drew)
    have GD := Lib.hid (G1.out.below (Below.refl _ w1).drew)
    have m1d := LD.out.map
    go_region_held_law (fun w' => w'.cell? ⟨B, 1, none⟩ = some (.map (some m)))
      (first
        | exact L3.out.map
        | exact LD.out.map
        | go_keep)
      ((go_at_call 104; refine (HC.out _ GD.out.gl).mono ?_; rintro e w3 ⟨rfl, hb3⟩; have L3 := Lib.hid (LD.out.below hb3); have R3 := Lib.hid (tokrow_next R1.out.drew hb3); have B3 := Lib.hid (B1.out.drew.trans (hb3.mono (Nat.le_of_lt R1.out.lt))); have G3 := Lib.hid (GD.out.below hb3); have hl3 := HLK.out _ L3.out.kinds; have m3 := L3.out.map; have c3 := HLF.out _ L3.out; obtain ⟨d0, d1, d2, f0, f1, f2⟩ := tok_cells R3.out; clear hb3))
    go_wp2_with (go_at_call 102; refine (HK.out _).mono ?_; rintro e w4 ⟨rfl, hb4⟩; have R4 := Lib.hid (tokrow_next R3.out hb4); have B4 := Lib.hid (B3.out.trans (hb4.mono (Nat.le_of_lt R3.out.lt))); obtain ⟨x0, x1, x2, y0, y1, y2⟩ := tok_cells R4.out; clear hb4)
    exact tok_ret (j := 2) rfl rfl rfl (tok_set R4.out _ _ _) (by simp [tokC, HU.out, HGG.out]) ⟨rfl, below_set3 B4.out _ _ _ (by simp) (by simp) (by simp) _ _ _⟩
end Go.Proofs.YtdgffpcbpilkcaaGreatDoor
