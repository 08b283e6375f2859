/- The token that comes next: the call. -/
import Derived.Test.YtdgffpcbpilkcaaGreatDoorLxNextR
import Derived.Test.YtdgffpcbpilkcaaGreatDoorLxToks
import Derived.Deep.RegionHeld3
namespace Go.Proofs.YtdgffpcbpilkcaaGreatDoor
open Go Go.RowKit Go.Shelf
attribute [local go_sem] Oper.semAt_some

set_option maxRecDepth 100000 in
set_option maxHeartbeats 0 in
/-- next(). -/
theorem next_c (T : List UInt8) (hT : T.length ≤ 10000) (h0 : T ≠ []) (B m : Nat) (w : World) (hG : LG w) (hL : Lexer w B m T) :
    Calls Tryz.prog 85 #[.pointer (some ⟨B, 0, none⟩)] w fun e W' => e = .returned (tokV (tk1 st T)) ∧ Lexer W' B m (T.drop (tk1 st T).text.length) ∧
      (∀ k, k < w.heap.size → k ≠ B → W'.heap[k]? = w.heap[k]?) ∧ w.heap.size ≤ W'.heap.size ∧ Below B w W' := by
  obtain ⟨s, hs⟩ : ∃ s, s = bs T := ⟨_, rfl⟩
  have hO := fun g W hG hL hR => firstOf_rules T hT h0 B m g W hG hL hR
  obtain ⟨x, hx⟩ : ∃ x, x = tk1 st T := ⟨_, rfl⟩
  obtain ⟨kd, hkd⟩ : ∃ kd : Int, kd = ((x.kind : Nat) : Int) := ⟨_, rfl⟩
  obtain ⟨U, hU⟩ : ∃ U, U = bs x.text := ⟨_, rfl⟩
  obtain ⟨G, hGl⟩ : ∃ G, G = bs x.glyph := ⟨_, rfl⟩
  have hxv : tokV x = .agg #[.int .i64 kd, .string U, .string G] := by rw [hkd, hU, hGl]; rfl
  rw [← hx] at hO ⊢
  rw [hxv, ← hs] at hO
  have hlen := tk1_len st (fun T h => st_bounds h) h0
  rw [← hx] at hlen
  have hUs : U.size = x.text.length := by rw [hU, bs_size]
  have hUl : U.size ≤ s.size := by rw [hUs, hs, bs_size]; exact hlen.2.1
  obtain ⟨R, hR⟩ : ∃ R, R = bs (T.drop x.text.length) := ⟨_, rfl⟩
  have hext : s.extract U.size s.size = R := by rw [hUs, hR, hs, ext_drop]
  have HSKIP := Lib.hid (fun W hr => skip_c B m U.size s R hUl hext W hr)
  have hs1 : s.size ≤ 10000 := by rw [hs, bs_size]; exact hT
  have hG1 : G.size ≤ 10000 := by
    rw [hGl, bs_size]
    have := glyph_len st T
    rw [← hx] at this
    omega
  have HOWN := Lib.hid (fun W => own_c kd U G (by omega) hG1 W)
  have HS := Lib.hid hs
  have HR := Lib.hid hR
  have HLF : Hid (∀ W, Lexer W B m T → W.cell? ⟨B, 0, none⟩ = some (.string s)) := Lib.hid (fun W h => by rw [hs]; exact h.left)
  have HO := Lib.hid hO
  have HV := Lib.hid hxv
  have hbz : Below w.heap.size w (w.alloc (.cells #[.int .i64 0, .string ⟨#[]⟩, .string ⟨#[]⟩] 55)) := (Below.refl _ w).alloc (Nat.le_refl _) _
  have L0 := Lib.hid (hL.below hbz)
  have G0 := Lib.hid (hG.below hbz)
  have R0 : Hid (Row (w.alloc (.cells #[.int .i64 0, .string ⟨#[]⟩, .string ⟨#[]⟩] 55)) w.heap.size 55 #[.int .i64 0, .string ⟨#[]⟩, .string ⟨#[]⟩]) := Lib.hid (Row.new _ _ _)
  have BZ := Lib.hid hbz
  have c0 := HLF.out _ L0.out
  have hBl := hL.row.lt
  have hml := hL.lt
  clear hlen hUs hext hR hO hxv hkd hU hGl hx hs hG hL hbz hT h0
  go_enter Tryz.func85, Tryz.ntmps85
  go_wp2_with fail
  obtain ⟨W0, hW0⟩ : ∃ W0, w.alloc (.cells #[.int .i64 0, .string ⟨#[]⟩, .string ⟨#[]⟩] 55) = W0 := ⟨_, rfl⟩
  have hsz : W0.heap.size = w.heap.size + 1 := by rw [← hW0]; simp
  rw [hW0] at L0 G0 R0 BZ c0 ⊢
  clear hW0
  have LD := Lib.hid (L0.out.below (Below.refl _ W0).drew)
  have hbs : Below W0.heap.size W0 (W0.alloc (.cells (ruleCs s B) 149)).drew := ((Below.refl _ W0).alloc (Nat.le_refl _) _).drew
  have LS := Lib.hid (L0.out.below hbs)
  have GS := Lib.hid (G0.out.below hbs)
  have RZ := Lib.hid (R0.out.below hbs (by omega))
  have BS := Lib.hid (BZ.out.trans (hbs.mono (by omega)))
  have hcall := HO.out W0.heap.size (W0.alloc (.cells (ruleCs s B) 149)).drew GS.out LS.out (Row.new W0 149 (ruleCs s B)).drew
  rw [hsz] at hcall
  have HLE : Hid (w.heap.size ≤ (W0.alloc (.cells (ruleCs s B) 149)).drew.heap.size) := Lib.hid (by show _ ≤ (W0.alloc _).heap.size; simp; omega)
  have hbt : Below W0.heap.size W0 ((W0.alloc (.cells (ruleCs s B) 149)).alloc (.cells #[.int .i64 0, .string ⟨#[]⟩, .string ⟨#[]⟩] 55)).drew := (((Below.refl _ W0).alloc (Nat.le_refl _) _).alloc (by simp) _).drew
  have LT := Lib.hid (L0.out.below hbt)
  have GT := Lib.hid (G0.out.below hbt)
  have RT := Lib.hid (R0.out.below hbt (by omega))
  have BT := Lib.hid (BZ.out.trans (hbt.mono (by omega)))
  have XT : Hid (Row ((W0.alloc (.cells (ruleCs s B) 149)).alloc (.cells #[.int .i64 0, .string ⟨#[]⟩, .string ⟨#[]⟩] 55)).drew (w.heap.size + 1 + 1) 55 #[.int .i64 0, .string ⟨#[]⟩, .string ⟨#[]⟩]) := Lib.hid (Row.at (W0.alloc (.cells (ruleCs s B) 149)) _ _ _ (by simp; omega)).drew
  have hcall2 := HO.out W0.heap.size ((W0.alloc (.cells (ruleCs s B) 149)).alloc (.cells #[.int .i64 0, .string ⟨#[]⟩, .string ⟨#[]⟩] 55)).drew GT.out LT.out ((Row.new W0 149 (ruleCs s B)).alloc _).drew
  rw [hsz] at hcall2
  have HLE2 : Hid (w.heap.size ≤ ((W0.alloc (.cells (ruleCs s B) 149)).alloc (.cells #[.int .i64 0, .string ⟨#[]⟩, .string ⟨#[]⟩] 55)).drew.heap.size) := Lib.hid (by show _ ≤ ((W0.alloc _).alloc _).heap.size; simp; omega)
  have hba : Below W0.heap.size W0 (W0.alloc (.cells #[.int .i64 0, .string ⟨#[]⟩, .string ⟨#[]⟩] 55)).drew := ((Below.refl _ W0).alloc (Nat.le_refl _) _).drew
  have LA := Lib.hid (L0.out.below hba)
  have hbu : Below W0.heap.size W0 ((W0.alloc (.cells #[.int .i64 0, .string ⟨#[]⟩, .string ⟨#[]⟩] 55)).alloc (.cells (ruleCs s B) 149)).drew := (((Below.refl _ W0).alloc (Nat.le_refl _) _).alloc (by simp) _).drew
  have LU := Lib.hid (L0.out.below hbu)
  have GU := Lib.hid (G0.out.below hbu)
  have RU := Lib.hid (R0.out.below hbu (by omega))
  have BU := Lib.hid (BZ.out.trans (hbu.mono (by omega)))
  have XU : Hid (Row ((W0.alloc (.cells #[.int .i64 0, .string ⟨#[]⟩, .string ⟨#[]⟩] 55)).alloc (.cells (ruleCs s B) 149)).drew (w.heap.size + 1) 55 #[.int .i64 0, .string ⟨#[]⟩, .string ⟨#[]⟩]) := Lib.hid ((Row.at W0 _ _ _ hsz).alloc _).drew
  have hcall3 := HO.out (w.heap.size + 1 + 1) ((W0.alloc (.cells #[.int .i64 0, .string ⟨#[]⟩, .string ⟨#[]⟩] 55)).alloc (.cells (ruleCs s B) 149)).drew GU.out LU.out (Row.at (W0.alloc (.cells #[.int .i64 0, .string ⟨#[]⟩, .string ⟨#[]⟩] 55)) 149 (ruleCs s B) _ (by simp; omega)).drew
  have HLE3 : Hid (w.heap.size ≤ ((W0.alloc (.cells #[.int .i64 0, .string ⟨#[]⟩, .string ⟨#[]⟩] 55)).alloc (.cells (ruleCs s B) 149)).drew.heap.size) := Lib.hid (by show _ ≤ ((W0.alloc _).alloc _).heap.size; simp; omega)
  dsimp only [ruleCs] at hcall hcall2 hcall3
  have HCALL := Lib.hid hcall
  have HCALL2 := Lib.hid hcall2
  have HCALL3 := Lib.hid hcall3
  clear HO L0 G0 R0 BZ hbs hbt hba hbu hcall hcall2 hcall3
  refine wp_region_held_drew (S := fun w' => w'.cell? ⟨B, 0, none⟩ = some (.string s)) (by kernel_rfl) (HLF.out _ LD.out) (fun hHeld => ?_)
  refine wpAnyH_take (i := 0) (v := .pointer (some ⟨B, 0, none⟩)) rfl (by kernel_rfl) (by kernel_rfl) (by kernel_rfl) (fun _ _ _ h => h) (Or.inl ⟨by rfl, ?_⟩) hHeld ?_
  · intro w' hSw; (try dsimp only at hSw); go_simp
  simp only [Act.put]
  refine wpAnyH_take (i := 1) (v := .pointer (some ⟨B, 0, none⟩)) rfl (by kernel_rfl) (by kernel_rfl) (by kernel_rfl) (fun _ _ _ h => h) (Or.inl ⟨by rfl, ?_⟩) hHeld ?_
  · intro w' hSw; (try dsimp only at hSw); go_simp
  simp only [Act.put]
  refine wpAnyH_take (i := 2) (v := .pointer (some ⟨B, 0, none⟩)) rfl (by kernel_rfl) (by kernel_rfl) (by kernel_rfl) (fun _ _ _ h => h) (Or.inl ⟨by rfl, ?_⟩) hHeld ?_
  · intro w' hSw; (try dsimp only at hSw); go_simp
  simp only [Act.put]
  refine wpAnyH_take (i := 3) (v := .agg #[.string s]) rfl (by kernel_rfl) (by kernel_rfl) (by kernel_rfl) (fun _ _ _ h => h) (Or.inl ⟨by rfl, ?_⟩) hHeld ?_
  · intro w' hSw; (try dsimp only at hSw); go_simp
  simp only [Act.put]
  refine wpAnyH_take (i := 4) (v := .func (.func 90) #[.agg #[.string s]] #[]) rfl (by kernel_rfl) (by kernel_rfl) (by kernel_rfl) (fun _ _ _ h => h) (Or.inl ⟨by rfl, ?_⟩) hHeld ?_
  · intro w' hSw; (try dsimp only at hSw); go_simp
  simp only [Act.put]
  refine wpAnyH_take (i := 5) (v := .pointer (some ⟨B, 0, none⟩)) rfl (by kernel_rfl) (by kernel_rfl) (by kernel_rfl) (fun _ _ _ h => h) (Or.inl ⟨by rfl, ?_⟩) hHeld ?_
  · intro w' hSw; (try dsimp only at hSw); go_simp
  simp only [Act.put]
  refine wpAnyH_take (i := 6) (v := .pointer (some ⟨B, 0, none⟩)) rfl (by kernel_rfl) (by kernel_rfl) (by kernel_rfl) (fun _ _ _ h => h) (Or.inl ⟨by rfl, ?_⟩) hHeld ?_
  · intro w' hSw; (try dsimp only at hSw); go_simp
  simp only [Act.put]
  refine wpAnyH_take (i := 7) (v := .pointer (some ⟨B, 0, none⟩)) rfl (by kernel_rfl) (by kernel_rfl) (by kernel_rfl) (fun _ _ _ h => h) (Or.inl ⟨by rfl, ?_⟩) hHeld ?_
  · intro w' hSw; (try dsimp only at hSw); go_simp
  simp only [Act.put]
  refine wpAnyH_take (i := 8) (v := .agg #[.string s]) rfl (by kernel_rfl) (by kernel_rfl) (by kernel_rfl) (fun _ _ _ h => h) (Or.inl ⟨by rfl, ?_⟩) hHeld ?_
  · intro w' hSw; (try dsimp only at hSw); go_simp
  simp only [Act.put]
  refine wpAnyH_take (i := 9) (v := .func (.func 91) #[.agg #[.string s]] #[]) rfl (by kernel_rfl) (by kernel_rfl) (by kernel_rfl) (fun _ _ _ h => h) (Or.inl ⟨by rfl, ?_⟩) hHeld ?_
  · intro w' hSw; (try dsimp only at hSw); go_simp
  simp only [Act.put]
  refine wpAnyH_take (i := 10) (v := .pointer (some ⟨B, 0, none⟩)) rfl (by kernel_rfl) (by kernel_rfl) (by kernel_rfl) (fun _ _ _ h => h) (Or.inl ⟨by rfl, ?_⟩) hHeld ?_
  · intro w' hSw; (try dsimp only at hSw); go_simp
  simp only [Act.put]
  refine wpAnyH_take (i := 11) (v := .pointer (some ⟨B, 0, none⟩)) rfl (by kernel_rfl) (by kernel_rfl) (by kernel_rfl) (fun _ _ _ h => h) (Or.inl ⟨by rfl, ?_⟩) hHeld ?_
  · intro w' hSw; (try dsimp only at hSw); go_simp
  simp only [Act.put]
  refine wpAnyH_take (i := 12) (v := .pointer (some ⟨B, 0, none⟩)) rfl (by kernel_rfl) (by kernel_rfl) (by kernel_rfl) (fun _ _ _ h => h) (Or.inl ⟨by rfl, ?_⟩) hHeld ?_
  · intro w' hSw; (try dsimp only at hSw); go_simp
  simp only [Act.put]
  refine wpAnyH_take (i := 13) (v := .agg #[.string s]) rfl (by kernel_rfl) (by kernel_rfl) (by kernel_rfl) (fun _ _ _ h => h) (Or.inl ⟨by rfl, ?_⟩) hHeld ?_
  · intro w' hSw; (try dsimp only at hSw); go_simp
  simp only [Act.put]
  refine wpAnyH_take (i := 14) (v := .func (.func 92) #[.agg #[.string s]] #[]) rfl (by kernel_rfl) (by kernel_rfl) (by kernel_rfl) (fun _ _ _ h => h) (Or.inl ⟨by rfl, ?_⟩) hHeld ?_
  · intro w' hSw; (try dsimp only at hSw); go_simp
  simp only [Act.put]
  refine wpAnyH_take (i := 15) (v := .pointer (some ⟨B, 0, none⟩)) rfl (by kernel_rfl) (by kernel_rfl) (by kernel_rfl) (fun _ _ _ h => h) (Or.inl ⟨by rfl, ?_⟩) hHeld ?_
  · intro w' hSw; (try dsimp only at hSw); go_simp
  simp only [Act.put]
  refine wpAnyH_take (i := 16) (v := .pointer (some ⟨B, 0, none⟩)) rfl (by kernel_rfl) (by kernel_rfl) (by kernel_rfl) (fun _ _ _ h => h) (Or.inl ⟨by rfl, ?_⟩) hHeld ?_
  · intro w' hSw; (try dsimp only at hSw); go_simp
  simp only [Act.put]
  refine wpAnyH_take (i := 17) (v := .pointer (some ⟨B, 0, none⟩)) rfl (by kernel_rfl) (by kernel_rfl) (by kernel_rfl) (fun _ _ _ h => h) (Or.inl ⟨by rfl, ?_⟩) hHeld ?_
  · intro w' hSw; (try dsimp only at hSw); go_simp
  simp only [Act.put]
  refine wpAnyH_take (i := 18) (v := .agg #[.string s]) rfl (by kernel_rfl) (by kernel_rfl) (by kernel_rfl) (fun _ _ _ h => h) (Or.inl ⟨by rfl, ?_⟩) hHeld ?_
  · intro w' hSw; (try dsimp only at hSw); go_simp
  simp only [Act.put]
  refine wpAnyH_take (i := 19) (v := .func (.func 93) #[.agg #[.string s]] #[]) rfl (by kernel_rfl) (by kernel_rfl) (by kernel_rfl) (fun _ _ _ h => h) (Or.inl ⟨by rfl, ?_⟩) hHeld ?_
  · intro w' hSw; (try dsimp only at hSw); go_simp
  simp only [Act.put]
  refine wpAnyH_take (i := 20) (v := .pointer (some ⟨B, 0, none⟩)) rfl (by kernel_rfl) (by kernel_rfl) (by kernel_rfl) (fun _ _ _ h => h) (Or.inl ⟨by rfl, ?_⟩) hHeld ?_
  · intro w' hSw; (try dsimp only at hSw); go_simp
  simp only [Act.put]
  refine wpAnyH_take (i := 21) (v := .pointer (some ⟨B, 0, none⟩)) rfl (by kernel_rfl) (by kernel_rfl) (by kernel_rfl) (fun _ _ _ h => h) (Or.inl ⟨by rfl, ?_⟩) hHeld ?_
  · intro w' hSw; (try dsimp only at hSw); go_simp
  simp only [Act.put]
  refine wpAnyH_take (i := 22) (v := .pointer (some ⟨B, 0, none⟩)) rfl (by kernel_rfl) (by kernel_rfl) (by kernel_rfl) (fun _ _ _ h => h) (Or.inl ⟨by rfl, ?_⟩) hHeld ?_
  · intro w' hSw; (try dsimp only at hSw); go_simp
  simp only [Act.put]
  refine wpAnyH_take (i := 23) (v := .agg #[.string s]) rfl (by kernel_rfl) (by kernel_rfl) (by kernel_rfl) (fun _ _ _ h => h) (Or.inl ⟨by rfl, ?_⟩) hHeld ?_
  · intro w' hSw; (try dsimp only at hSw); go_simp
  simp only [Act.put]
  refine wpAnyH_take (i := 24) (v := .func (.func 94) #[.agg #[.string s]] #[]) rfl (by kernel_rfl) (by kernel_rfl) (by kernel_rfl) (fun _ _ _ h => h) (Or.inl ⟨by rfl, ?_⟩) hHeld ?_
  · intro w' hSw; (try dsimp only at hSw); go_simp
  simp only [Act.put]
  refine wpAnyH_take (i := 25) (v := .pointer (some ⟨B, 0, none⟩)) rfl (by kernel_rfl) (by kernel_rfl) (by kernel_rfl) (fun _ _ _ h => h) (Or.inl ⟨by rfl, ?_⟩) hHeld ?_
  · intro w' hSw; (try dsimp only at hSw); go_simp
  simp only [Act.put]
  refine wpAnyH_take (i := 26) (v := .func (.func 95) #[.pointer (some ⟨B, 0, none⟩)] #[]) rfl (by kernel_rfl) (by kernel_rfl) (by kernel_rfl) (fun _ _ _ h => h) (Or.inl ⟨by rfl, ?_⟩) hHeld ?_
  · intro w' hSw; (try dsimp only at hSw); go_simp
  simp only [Act.put]
  refine wpAnyH_take (i := 27) (v := .pointer (some ⟨B, 0, none⟩)) rfl (by kernel_rfl) (by kernel_rfl) (by kernel_rfl) (fun _ _ _ h => h) (Or.inl ⟨by rfl, ?_⟩) hHeld ?_
  · intro w' hSw; (try dsimp only at hSw); go_simp
  simp only [Act.put]
  refine wpAnyH_take (i := 28) (v := .pointer (some ⟨B, 0, none⟩)) rfl (by kernel_rfl) (by kernel_rfl) (by kernel_rfl) (fun _ _ _ h => h) (Or.inl ⟨by rfl, ?_⟩) hHeld ?_
  · intro w' hSw; (try dsimp only at hSw); go_simp
  simp only [Act.put]
  refine wpAnyH_take (i := 29) (v := .pointer (some ⟨B, 0, none⟩)) rfl (by kernel_rfl) (by kernel_rfl) (by kernel_rfl) (fun _ _ _ h => h) (Or.inl ⟨by rfl, ?_⟩) hHeld ?_
  · intro w' hSw; (try dsimp only at hSw); go_simp
  simp only [Act.put]
  refine wpAnyH_take (i := 30) (v := .agg #[.string s]) rfl (by kernel_rfl) (by kernel_rfl) (by kernel_rfl) (fun _ _ _ h => h) (Or.inl ⟨by rfl, ?_⟩) hHeld ?_
  · intro w' hSw; (try dsimp only at hSw); go_simp
  simp only [Act.put]
  refine wpAnyH_take (i := 31) (v := .func (.func 96) #[.agg #[.string s]] #[]) rfl (by kernel_rfl) (by kernel_rfl) (by kernel_rfl) (fun _ _ _ h => h) (Or.inl ⟨by rfl, ?_⟩) hHeld ?_
  · intro w' hSw; (try dsimp only at hSw); go_simp
  simp only [Act.put]
  clear hHeld
  refine wpAnyH_ready (rs := [32, 34]) (by kernel_rfl) (by simp) ?_
  refine AllReadyH.cons rfl (fun K hK => ?_) ?_
  · go_simp
    refine hK.out _ _ (HLF.out _ LS.out) (fun _ => ?_)
    clear hK K
    refine wpAnyH_ready (rs := [33, 34]) (by kernel_rfl) (by simp) ?_
    refine AllReadyH.cons rfl (fun K hK => ?_) ?_
    · go_simp
      go_at_call 89
      refine HCALL.out.mono ?_
      rintro e w3 ⟨rfl, hb3⟩
      have L3 := Lib.hid (LS.out.below hb3)
      have R3 := Lib.hid (tokrow_next RZ.out hb3)
      have B3 := Lib.hid (BS.out.trans (hb3.mono HLE.out))
      clear hb3
      refine hK.out _ _ (HLF.out _ L3.out) (fun _ => ?_)
      clear hK K
      refine wpAnyH_ready (rs := [34]) (by kernel_rfl) (by simp) ?_
      refine AllReadyH.cons rfl (fun K hK => ?_) AllReadyH.nil
      go_simp
      refine hK.out _ _ (HLF.out _ (L3.out.below ((Below.refl _ _).alloc (Nat.le_refl _) _))) (fun _ => ?_)
      clear hK K
      refine wpAnyH_ready (rs := [35]) (by kernel_rfl) (by simp) ?_
      refine AllReadyH.cons rfl (fun K hK => ?_) AllReadyH.nil
      go_simp
      refine hK.out _ _ (HLF.out _ (L3.out.below ((Below.refl _ _).alloc (Nat.le_refl _) _))) (fun _ => ?_)
      clear hK K
      refine wpAnyH_done (by kernel_rfl) ?_ _
      obtain ⟨W2, hW2⟩ : ∃ W2, W2 = w3.alloc (.cells #[.int .i64 kd, .string U, .string G] 55) := ⟨_, rfl⟩
      have hbx : w.heap.size + 1 ≤ w3.heap.size := by first | omega | (have := R3.out.lt; omega)
      have rX : Row W2 (w3.heap.size) 55 #[.int .i64 kd, .string U, .string G] := by rw [hW2]; exact Row.new _ _ _
      have r2 : Row W2 w.heap.size 55 #[.int .i64 0, .string ⟨#[]⟩, .string ⟨#[]⟩] := by rw [hW2]; exact R3.out.alloc _
      have b2 : Below w.heap.size w W2 := by rw [hW2]; exact B3.out.alloc B3.out.size _
      have l2 : Lexer W2 B m T := by rw [hW2]; exact L3.out.below ((Below.refl _ _).alloc (Nat.le_refl _) _)
      rw [← hW2]
      have RX := Lib.hid rX.drew
      have RX4 := Lib.hid (rX.other (j := B) (i := 0) (by omega) (.string R)).drew
      have R24 := Lib.hid (r2.other (j := B) (i := 0) (by omega) (.string R)).drew
      have B2 := Lib.hid b2
      have L2 := Lib.hid l2
      have xd := (tok_cells rX.drew).2.1
      obtain ⟨v0, v1, v2, _, _, _⟩ := tok_cells RX4.out
      have HSK := Lib.hid (HSKIP.out W2.drew (by have := l2.row.drew; rw [← HS.out] at this; exact this))
      clear hW2 rX r2 b2 l2 L3 R3 B3
      go_wp2_with fail
      go_region_held3 (fun w' => w'.cell? ⟨w3.heap.size, 1, none⟩ = some (.string U))
        (first
          | with_reducible exact v1
          | with_reducible exact xd)
        ((go_at_call 97; ((with_reducible refine HSK.out.mono ?_); rintro e w4 ⟨rfl, rfl⟩)))
      go_wp2_with (go_at_call 98; refine (HOWN.out _).mono ?_; rintro e w5 ⟨rfl, hb5⟩; have R5 := Lib.hid (tokrow_next R24.out hb5); have HB5 := Lib.hid hb5; obtain ⟨q0, q1, q2, g0, g1, g2⟩ := tok_cells R5.out; clear hb5)
      exact agg_ret (j := 2) rfl rfl rfl (tok_set R5.out _ _ _) ⟨HV.out.symm ▸ rfl, next_end HR.out hBl hml L2.out B2.out HB5.out _ _ _⟩
    refine AllReadyH.cons rfl (fun K hK => ?_) AllReadyH.nil
    go_simp
    refine hK.out _ _ (HLF.out _ LT.out) (fun _ => ?_)
    clear hK K
    refine wpAnyH_ready (rs := [33]) (by kernel_rfl) (by simp) ?_
    refine AllReadyH.cons rfl (fun K hK => ?_) AllReadyH.nil
    go_simp
    go_at_call 89
    refine HCALL2.out.mono ?_
    rintro e w3 ⟨rfl, hb3⟩
    have L3 := Lib.hid (LT.out.below hb3)
    have R3 := Lib.hid (tokrow_next RT.out hb3)
    have B3 := Lib.hid (BT.out.trans (hb3.mono HLE2.out))
    have X3 := Lib.hid (tokrow_next XT.out hb3)
    obtain ⟨y0, y1, y2, z0, z1, z2⟩ := tok_cells X3.out
    clear hb3
    refine hK.out _ _ (HLF.out _ L3.out) (fun _ => ?_)
    clear hK K
    refine wpAnyH_ready (rs := [35]) (by kernel_rfl) (by simp) ?_
    refine AllReadyH.cons rfl (fun K hK => ?_) AllReadyH.nil
    go_simp
    refine hK.out _ _ (HLF.out _ (L3.out.belowN (n := w.heap.size + 1) (below_set3 (Below.refl _ _) _ _ _ (by dsimp only; omega) (by dsimp only; omega) (by dsimp only; omega) _ _ _) (by omega) (by omega))) (fun _ => ?_)
    clear hK K
    refine wpAnyH_done (by kernel_rfl) ?_ _
    obtain ⟨W2, hW2⟩ : ∃ W2, W2 = ((w3.setCell ⟨w.heap.size + 1 + 1, 0, none⟩ (.int .i64 kd)).setCell ⟨w.heap.size + 1 + 1, 1, none⟩ (.string U)).setCell ⟨w.heap.size + 1 + 1, 2, none⟩ (.string G) := ⟨_, rfl⟩
    have hbx : w.heap.size + 1 ≤ w.heap.size + 1 + 1 := by first | omega | (have := R3.out.lt; omega)
    have rX : Row W2 (w.heap.size + 1 + 1) 55 #[.int .i64 kd, .string U, .string G] := by rw [hW2]; exact tok_set X3.out _ _ _
    have r2 : Row W2 w.heap.size 55 #[.int .i64 0, .string ⟨#[]⟩, .string ⟨#[]⟩] := by rw [hW2]; exact ((R3.out.other (by omega) _).other (by omega) _).other (by omega) _
    have b2 : Below w.heap.size w W2 := by rw [hW2]; exact below_set3 B3.out _ _ _ (by dsimp only; omega) (by dsimp only; omega) (by dsimp only; omega) _ _ _
    have l2 : Lexer W2 B m T := by rw [hW2]; exact L3.out.belowN (n := w.heap.size + 1) (below_set3 (Below.refl _ _) _ _ _ (by dsimp only; omega) (by dsimp only; omega) (by dsimp only; omega) _ _ _) (by omega) (by omega)
    rw [← hW2]
    have RX := Lib.hid rX.drew
    have RX4 := Lib.hid (rX.other (j := B) (i := 0) (by omega) (.string R)).drew
    have R24 := Lib.hid (r2.other (j := B) (i := 0) (by omega) (.string R)).drew
    have B2 := Lib.hid b2
    have L2 := Lib.hid l2
    have xd := (tok_cells rX.drew).2.1
    obtain ⟨v0, v1, v2, _, _, _⟩ := tok_cells RX4.out
    have HSK := Lib.hid (HSKIP.out W2.drew (by have := l2.row.drew; rw [← HS.out] at this; exact this))
    clear hW2 rX r2 b2 l2 L3 R3 B3 X3
    go_wp2_with fail
    go_region_held3 (fun w' => w'.cell? ⟨w.heap.size + 1 + 1, 1, none⟩ = some (.string U))
      (first
        | with_reducible exact v1
        | with_reducible exact xd)
      ((go_at_call 97; ((with_reducible refine HSK.out.mono ?_); rintro e w4 ⟨rfl, rfl⟩)))
    go_wp2_with (go_at_call 98; refine (HOWN.out _).mono ?_; rintro e w5 ⟨rfl, hb5⟩; have R5 := Lib.hid (tokrow_next R24.out hb5); have HB5 := Lib.hid hb5; obtain ⟨q0, q1, q2, g0, g1, g2⟩ := tok_cells R5.out; clear hb5)
    exact agg_ret (j := 2) rfl rfl rfl (tok_set R5.out _ _ _) ⟨HV.out.symm ▸ rfl, next_end HR.out hBl hml L2.out B2.out HB5.out _ _ _⟩
  refine AllReadyH.cons rfl (fun K hK => ?_) AllReadyH.nil
  go_simp
  refine hK.out _ _ (HLF.out _ LA.out) (fun _ => ?_)
  clear hK K
  refine wpAnyH_ready (rs := [32]) (by kernel_rfl) (by simp) ?_
  refine AllReadyH.cons rfl (fun K hK => ?_) AllReadyH.nil
  go_simp
  refine hK.out _ _ (HLF.out _ LU.out) (fun _ => ?_)
  clear hK K
  refine wpAnyH_ready (rs := [33]) (by kernel_rfl) (by simp) ?_
  refine AllReadyH.cons rfl (fun K hK => ?_) AllReadyH.nil
  go_simp
  go_at_call 89
  refine HCALL3.out.mono ?_
  rintro e w3 ⟨rfl, hb3⟩
  have L3 := Lib.hid (LU.out.below hb3)
  have R3 := Lib.hid (tokrow_next RU.out hb3)
  have B3 := Lib.hid (BU.out.trans (hb3.mono HLE3.out))
  have X3 := Lib.hid (tokrow_next XU.out hb3)
  obtain ⟨y0, y1, y2, z0, z1, z2⟩ := tok_cells X3.out
  clear hb3
  refine hK.out _ _ (HLF.out _ L3.out) (fun _ => ?_)
  clear hK K
  refine wpAnyH_ready (rs := [35]) (by kernel_rfl) (by simp) ?_
  refine AllReadyH.cons rfl (fun K hK => ?_) AllReadyH.nil
  go_simp
  refine hK.out _ _ (HLF.out _ (L3.out.belowN (n := w.heap.size + 1) (below_set3 (Below.refl _ _) _ _ _ (by dsimp only; omega) (by dsimp only; omega) (by dsimp only; omega) _ _ _) (by omega) (by omega))) (fun _ => ?_)
  clear hK K
  refine wpAnyH_done (by kernel_rfl) ?_ _
  obtain ⟨W2, hW2⟩ : ∃ W2, W2 = ((w3.setCell ⟨w.heap.size + 1, 0, none⟩ (.int .i64 kd)).setCell ⟨w.heap.size + 1, 1, none⟩ (.string U)).setCell ⟨w.heap.size + 1, 2, none⟩ (.string G) := ⟨_, rfl⟩
  have hbx : w.heap.size + 1 ≤ w.heap.size + 1 := by first | omega | (have := R3.out.lt; omega)
  have rX : Row W2 (w.heap.size + 1) 55 #[.int .i64 kd, .string U, .string G] := by rw [hW2]; exact tok_set X3.out _ _ _
  have r2 : Row W2 w.heap.size 55 #[.int .i64 0, .string ⟨#[]⟩, .string ⟨#[]⟩] := by rw [hW2]; exact ((R3.out.other (by omega) _).other (by omega) _).other (by omega) _
  have b2 : Below w.heap.size w W2 := by rw [hW2]; exact below_set3 B3.out _ _ _ (by dsimp only; omega) (by dsimp only; omega) (by dsimp only; omega) _ _ _
  have l2 : Lexer W2 B m T := by rw [hW2]; exact L3.out.belowN (n := w.heap.size + 1) (below_set3 (Below.refl _ _) _ _ _ (by dsimp only; omega) (by dsimp only; omega) (by dsimp only; omega) _ _ _) (by omega) (by omega)
  rw [← hW2]
  have RX := Lib.hid rX.drew
  have RX4 := Lib.hid (rX.other (j := B) (i := 0) (by omega) (.string R)).drew
  have R24 := Lib.hid (r2.other (j := B) (i := 0) (by omega) (.string R)).drew
  have B2 := Lib.hid b2
  have L2 := Lib.hid l2
  have xd := (tok_cells rX.drew).2.1
  obtain ⟨v0, v1, v2, _, _, _⟩ := tok_cells RX4.out
  have HSK := Lib.hid (HSKIP.out W2.drew (by have := l2.row.drew; rw [← HS.out] at this; exact this))
  clear hW2 rX r2 b2 l2 L3 R3 B3 X3
  go_wp2_with fail
  go_region_held3 (fun w' => w'.cell? ⟨w.heap.size + 1, 1, none⟩ = some (.string U))
    (first
      | with_reducible exact v1
      | with_reducible exact xd)
    ((go_at_call 97; ((with_reducible refine HSK.out.mono ?_); rintro e w4 ⟨rfl, rfl⟩)))
  go_wp2_with (go_at_call 98; refine (HOWN.out _).mono ?_; rintro e w5 ⟨rfl, hb5⟩; have R5 := Lib.hid (tokrow_next R24.out hb5); have HB5 := Lib.hid hb5; obtain ⟨q0, q1, q2, g0, g1, g2⟩ := tok_cells R5.out; clear hb5)
  exact agg_ret (j := 2) rfl rfl rfl (tok_set R5.out _ _ _) ⟨HV.out.symm ▸ rfl, next_end HR.out hBl hml L2.out B2.out HB5.out _ _ _⟩
end Go.Proofs.YtdgffpcbpilkcaaGreatDoor
