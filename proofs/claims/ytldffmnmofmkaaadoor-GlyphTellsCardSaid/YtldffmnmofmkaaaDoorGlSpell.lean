/- A text is gone through, and written anew: each sign in it as it is told, all else as it is. -/
import Derived.Test.YtldffmnmofmkaaaDoorGlPut
import Derived.Laws.IdiomStrings
import Derived.Lib.BufferRead
import Derived.Deep.RegionHeldLaw
import Derived.ScopeJumps
import Derived.WalkMore
namespace Go.Proofs.YtldffmnmofmkaaaDoor
open Go Go.RowKit

theorem bs_take (l : List UInt8) (n : Nat) : (bs l).extract 0 n = bs (l.take n) := by
  apply ByteArray.ext
  apply Array.ext'
  rw [ByteArray.data_extract, Array.toList_extract]
  simp [bs, List.extract]
theorem bs_drop (l : List UInt8) (n : Nat) : (bs l).extract n (bs l).size = bs (l.drop n) := by
  apply ByteArray.ext
  apply Array.ext'
  rw [gl_drop]
  simp [bs]

theorem own_conv {W : World} {base : Nat} {v : Value} {T : List UInt8} (h : W.ownsRow base 5 1 v T.length (Lib.byteCells T)) : (convert 53 9 v).run Tryd.prog W = .ok (.string (bs T)) W := by
  rcases h.2 with ⟨rfl, h0⟩ | ⟨g, cap, cur, rfl, hbg, hg, hnc, hcm, hcs, htk⟩
  · have hT : T = [] := List.eq_nil_of_length_eq_zero h0
    subst hT
    have := Lib.run_convert_nil_bytes (P := Tryd.prog) W 53 9 5 0 Tryd.underlying53 Tryd.underlying5 Tryd.underlying9
    simpa [bs] using this
  · exact run_convert_bytes_back (P := Tryd.prog) W 53 9 5 ⟨g, 0, none⟩ cap T Tryd.underlying53 Tryd.underlying5 Tryd.underlying9 (fun j hj => h.cells (g := g) rfl j _ (by simp [Lib.byteCells, hj]))

theorem take_l (base Br : Nat) (T O : List UInt8) (n : Nat) (hn : n ≤ T.length) (hbb : base ≤ Br) (w : World) (h : Rd base Br w (bs T) O) :
    Calls Tryd.prog 37 #[.pointer (some ⟨Br, 0, none⟩), .int .i64 (n : Int)] w fun e W' => e = .returned (.string (bs (T.take n))) ∧ Rd base Br W' (bs (T.drop n)) O ∧ Below base w W' ∧ (∀ k, k ≠ Br → W'.heap[k]? = w.heap[k]?) ∧ W'.heap.size = w.heap.size := by
  have := take_c base Br (bs T) O n (by rw [bs_size]; exact hn) hbb w h
  rw [bs_take, bs_drop] at this
  exact this

theorem put2 (base Br : Nat) (s : ByteArray) (O l1 l2 : List UInt8) (hT : O.length + (l1.length + l2.length) ≤ 100000) (hbb : base ≤ Br) (w : World) (h : Rd base Br w s O) :
    Calls Tryd.prog 36 #[.pointer (some ⟨Br, 0, none⟩), .slice (some ⟨w.heap.size, 0, none⟩) 2 2] (w.alloc (.cells #[.string (bs l1), .string (bs l2)] 9)) fun e W' => (∃ v, e = .returned v) ∧ Rd base Br W' s (O ++ (l1 ++ l2)) ∧ Below base (w.alloc (.cells #[.string (bs l1), .string (bs l2)] 9)) W' ∧ (∀ k t cs, Row (w.alloc (.cells #[.string (bs l1), .string (bs l2)] 9)) k t cs → k ≠ Br → t ≠ 5 → Row W' k t cs) := by
  have := put_c base Br w.heap.size s O [l1, l2] (by simp) (by simpa using hT) hbb (w.alloc (.cells #[.string (bs l1), .string (bs l2)] 9)) (h.below ((Below.refl _ w).alloc (Nat.le_refl _) _)) (Row.new w _ _)
  simpa using this
theorem put1 (base Br : Nat) (s : ByteArray) (O l1 : List UInt8) (hT : O.length + l1.length ≤ 100000) (hbb : base ≤ Br) (w : World) (h : Rd base Br w s O) :
    Calls Tryd.prog 36 #[.pointer (some ⟨Br, 0, none⟩), .slice (some ⟨w.heap.size, 0, none⟩) 1 1] (w.alloc (.cells #[.string (bs l1)] 9)) fun e W' => (∃ v, e = .returned v) ∧ Rd base Br W' s (O ++ l1) ∧ Below base (w.alloc (.cells #[.string (bs l1)] 9)) W' ∧ (∀ k t cs, Row (w.alloc (.cells #[.string (bs l1)] 9)) k t cs → k ≠ Br → t ≠ 5 → Row W' k t cs) := by
  have := put_c base Br w.heap.size s O [l1] (by simp) (by simpa using hT) hbb (w.alloc (.cells #[.string (bs l1)] 9)) (h.below ((Below.refl _ w).alloc (Nat.le_refl _) _)) (Row.new w _ _)
  simpa using this

theorem nextAt_all : ∀ T : List UInt8, firstK (T.drop (nextAt T)) = none → nextAt T = T.length
  | [], _ => rfl
  | b :: r, h => by
    unfold nextAt at h ⊢
    split at h
    · rename_i k hk
      rw [List.drop_zero, hk] at h
      cases h
    · rename_i hn
      rw [List.drop_succ_cons] at h
      rw [nextAt_all r h, List.length_cons]

/-- How many bytes are left. -/
def leftLen (Br : Nat) (W : World) : Nat := match W.cell? ⟨Br, 0, none⟩ with
  | some (.string s) => s.size
  | _ => 0
theorem Rd.left {base Br : Nat} {W : World} {s : ByteArray} {O : List UInt8} (h : Rd base Br W s O) : leftLen Br W = s.size := by
  obtain ⟨v, h1, _⟩ := h
  have := h1.cell 0
  simp at this
  unfold leftLen
  rw [this]

set_option maxRecDepth 100000 in
set_option maxHeartbeats 4000000 in
/-- r.spell(as). -/
theorem spell_c (base Br fas : Nat) (f : Nat → List UInt8) (hf3 : ∀ k, k < 38 → (f k).length ≤ 3) (hfe : ∀ args w, (callFunc fas args).run Tryd.prog w = .ok (.enter fas args) w)
    (hfs : ∀ k, k < 38 → ∀ W, Calls Tryd.prog fas #[signV k] W fun e w' => e = .returned (.string (bs (f k))) ∧ Below W.heap.size W w')
    (T : List UInt8) (hT : T.length ≤ 10000) (hbb : base ≤ Br) (hg : 0 < base) (w : World) (hG : Ground w) (h : Rd base Br w (bs T) []) :
    Calls Tryd.prog 30 #[.pointer (some ⟨Br, 0, none⟩), .func (.func fas) #[] #[]] w fun e W' => e = .returned (.string (bs (turn f T 0))) ∧ Below base w W' := by
  have HFS := Lib.hid hfs
  have HR := Lib.hid h
  have HG := Lib.hid hG
  have HF3 := Lib.hid hf3
  clear hfs h hG hf3
  go_enter Tryd.func30, Tryd.ntmps30
  go_wp2
  refine wp_scope_jumps 0 (fun a' W => ∃ (u2 u3 u4 u5 u6 u7 u8 u9 u10 u11 u12 u13 u14 u15 u16 u17 u18 u19 u20 u21 u22 u23 u24 u25 u26 u27 u28 u29 u30 u31 u32 u33 u34 u35 u36 u37 u38 u39 u40 u41 u42 u43 u44 u45 u46 u47 u48 : Value), a' = { tmps := #[.pointer (some ⟨Br, 0, none⟩), .func (.func fas) #[] #[], u2, u3, u4, u5, u6, u7, u8, u9, u10, u11, u12, u13, u14, u15, u16, u17, u18, u19, u20, u21, u22, u23, u24, u25, u26, u27, u28, u29, u30, u31, u32, u33, u34, u35, u36, u37, u38, u39, u40, u41, u42, u43, u44, u45, u46, u47, u48], defers := [] } ∧ ∃ T1 O, Rd base Br W (bs T1) O ∧ O ++ T1 = turn f T 0 ∧ O.length + T1.length ≤ 100000 ∧ Below base w W) (fun _ _ => 0) rfl ?_ ?_
  · go_wp2
    go_loopw [] (fun wr => ∃ T1 O, Rd base Br wr (bs T1) O ∧ O ++ turn f T1 0 = turn f T 0 ∧ O.length + 3 * T1.length ≤ 3 * T.length ∧ Below base w wr ∧ base ≤ wr.heap.size ∧ Ground wr)
      (fun wr => leftLen Br wr)
    case atStart => exact ⟨T, [], HR.out, rfl, by simp, Below.refl _ _, by obtain ⟨v, h1, _⟩ := HR.out; have := h1.lt; omega, HG.out⟩
    case round =>
      obtain ⟨T1, O, hR, hE, hLn, hB, hbs, hG1⟩ := hrel
      have hNX := fun W (hW : Ground W) => next_c (bs T1) (by rw [bs_size]; omega) W hW
      rw [bs_list] at hNX
      have HNX := Lib.hid hNX
      have HLL := Lib.hid hR.left
      have c0 : wr.cell? ⟨Br, 0, none⟩ = some (.string (bs T1)) := by obtain ⟨v, h1, _⟩ := hR; have := h1.cell 0; simpa using this
      have HR1 := Lib.hid hR
      have HE := Lib.hid hE
      have HB := Lib.hid hB
      have HLN := Lib.hid hLn
      clear hNX hR hE hB hLn
      cases hfk : firstK (T1.drop (nextAt T1)) with
      | none =>
        have hna := nextAt_all T1 hfk
        have htk : turn f T1 0 = T1 := by
          rw [turn_ahead f T1.length T1 (Nat.le_refl _) (fun j hj => nextAt_none T1 j (by rw [hna]; exact hj))]
          simp [turn]
        rw [hfk] at HNX
        dsimp only [optV] at HNX
        have HTK := Lib.hid htk
        clear htk hna hfk
        go_wp2_with (go_at_call 35; refine (HNX.out _ hG1).mono ?_; rintro e w' ⟨rfl, hb⟩; have HBB := Lib.hid hb; clear hb)
        go_step3
        refine ⟨rfl, _, _, _, _, _, _, _, _, _, _, _, _, _, _, _, _, _, _, _, _, _, _, _, _, _, _, _, _, _, _, _, _, _, _, _, _, _, _, _, _, _, _, _, _, _, _, _, rfl, T1, O, ?_, ?_, ?_, ?_⟩
        · exact (HR1.out.below HBB.out).below ((Below.refl _ w').alloc (Nat.le_refl _) _)
        · rw [← HE.out, HTK.out]
        · have := HLN.out; omega
        · exact (HB.out.trans (HBB.out.mono hbs)).alloc (Nat.le_trans hbs HBB.out.size) _
      | some k =>
        have hk38 := (firstK_some.1 hfk).1
        have hfp := fsz_pos hfk
        have hfl := fsz_le (T1.drop (nextAt T1))
        have hnl := nextAt_le T1
        have htk : turn f T1 0 = T1.take (nextAt T1) ++ (f k ++ turn f ((T1.drop (nextAt T1)).drop (fsz (T1.drop (nextAt T1)))) 0) := by
          rw [turn_ahead f (nextAt T1) T1 hnl (fun j hj => nextAt_none T1 j hj), turn_hit f hfk]
        have hf3 := HF3.out k hk38
        rw [hfk] at HNX
        dsimp only [optV, signV] at HNX
        obtain ⟨n, hn⟩ : ∃ n, n = nextAt T1 := ⟨_, rfl⟩
        obtain ⟨z, hz⟩ : ∃ z, z = fsz (T1.drop n) := ⟨_, rfl⟩
        rw [← hn] at HNX hfp hfl hnl htk
        rw [← hz] at HNX hfp hfl htk
        have hcall := HFS.out k hk38
        dsimp only [signV] at hcall
        obtain ⟨g, hgd⟩ : ∃ g, g = bs (gl k) := ⟨_, rfl⟩
        obtain ⟨d, hdd⟩ : ∃ d, d = bs (di k) := ⟨_, rfl⟩
        obtain ⟨c, hcd⟩ : ∃ c : Int, c = ((cl k : Nat) : Int) := ⟨_, rfl⟩
        have hgn : g.toList.isEmpty = false := by rw [hgd]; exact (by decide +kernel : ∀ k, k < 38 → (bs (gl k)).toList.isEmpty = false) k hk38
        rw [← hgd, ← hdd, ← hcd] at HNX hcall
        have HC := Lib.hid hcall
        have HTK := Lib.hid htk
        have HFL := Lib.hid hfl
        have HFP := Lib.hid hfp
        have HNL := Lib.hid hnl
        have HH3 := Lib.hid hf3
        clear hfk hn hz hgd hdd hcd hcall htk hfl hfp hnl hf3
        go_wp2_with (go_at_call 35; refine (HNX.out _ hG1).mono ?_; rintro e w1 ⟨rfl, hb⟩; have HBB := Lib.hid hb; clear hb)
        have hRd := (HR1.out.below HBB.out).below ((Below.refl _ w1).alloc (Nat.le_refl _) (.cells #[.string g, .string d, .int .i64 c] 36))
        have rX := Row.new w1 36 #[.string g, .string d, .int .i64 c]
        have hbr : Br ≠ w1.heap.size := by
          obtain ⟨v, h1, _⟩ := HR1.out.below HBB.out
          have := h1.lt
          omega
        have hG2 := (hG1.below HBB.out).below ((Below.refl _ w1).alloc (Nat.le_refl _) (.cells #[.string g, .string d, .int .i64 c] 36))
        have hB2 := (HB.out.trans (HBB.out.mono hbs)).alloc (Nat.le_trans hbs HBB.out.size) (.cells #[.string g, .string d, .int .i64 c] 36)
        have hbs2 : base ≤ (w1.alloc (.cells #[.string g, .string d, .int .i64 c] 36)).heap.size := by have := HBB.out.size; simp; omega
        obtain ⟨Bx, hBx⟩ : ∃ Bx, Bx = w1.heap.size := ⟨_, rfl⟩
        obtain ⟨W2, hW2⟩ : ∃ W2, W2 = (w1.alloc (.cells #[.string g, .string d, .int .i64 c] 36)) := ⟨_, rfl⟩
        rw [← hBx] at rX hbr ⊢
        rw [← hW2] at hRd rX hG2 hB2 hbs2 ⊢
        have RD : Hid (Rd base Br W2.drew (bs T1) O) := Lib.hid hRd
        have RX : Hid (Row W2.drew Bx 36 #[.string g, .string d, .int .i64 c]) := Lib.hid rX
        have x0 := rX.cell 0
        have x1 := rX.cell 1
        have x2 := rX.cell 2
        simp at x0 x1 x2
        have HG2 := Lib.hid hG2
        have HB2 := Lib.hid hB2
        have HBR := Lib.hid hbr
        clear hRd rX hG2 hB2 hW2 hBx HR1 HBB hbr c0 hG1 HNX HB
        go_region_held_law (fun w' => w'.cell? ⟨Bx, 0, none⟩ = some (.string g) ∧ w'.cell? ⟨Bx, 1, none⟩ = some (.string d) ∧ w'.cell? ⟨Bx, 2, none⟩ = some (.int .i64 c))
          (first
            | exact ⟨R4.out.cell 0, R4.out.cell 1, R4.out.cell 2⟩
            | exact ⟨R5.out.cell 0, R5.out.cell 1, R5.out.cell 2⟩
            | exact ⟨R5b.out.cell 0, R5b.out.cell 1, R5b.out.cell 2⟩
            | exact ⟨R6.out.cell 0, R6.out.cell 1, R6.out.cell 2⟩
            | go_keep)
          ((first
            | (go_at_call 37; refine (take_l base Br T1 O n (by have := HNL.out; omega) hbb _ RD.out).mono ?_; rintro e w4 ⟨rfl, hr4, hb4, ho4, hs4⟩; have r4 : Row w4 Bx 36 #[.string g, .string d, .int .i64 c] := (ho4 Bx HBR.out.symm).trans RX.out; have R4 := Lib.hid r4; have H4 := Lib.hid hr4; have HB4 := Lib.hid hb4; clear hr4 hb4 ho4 r4)
            | (go_at_fn fas; refine (HC.out _).mono ?_; rintro e w5 ⟨rfl, hb5⟩; have r5 := R4.out.below hb5 R4.out.lt; have R5 := Lib.hid r5; have H5 := Lib.hid (H4.out.below hb5); have HB5 := Lib.hid hb5; have R5b := Lib.hid (r5.alloc (.cells #[.string (bs (T1.take n)), .string (bs (f k))] 9)); have HP := Lib.hid (put2 base Br (bs (T1.drop n)) O (T1.take n) (f k) (by have h1 := HLN.out; have h2 := HH3.out; have h3 := HNL.out; simp [List.length_take]; omega) hbb w5 H5.out); clear hb5 r5)
            | (go_at_call 36; refine HP.out.mono ?_; rintro e w6 ⟨⟨v6, rfl⟩, hr6, hb6, hk6⟩; have R6 := Lib.hid (hk6 _ _ _ R5b.out HBR.out.symm (by decide)); have H6 := Lib.hid hr6; have HB6 := Lib.hid hb6; clear hr6 hb6 hk6)))
        have HB7 : Hid (Below base w w6) := Lib.hid (((((HB2.out.trans (Below.refl base W2).drew).trans HB4.out).trans (HB5.out.mono (by rw [hs4]; exact hbs2))).trans ((Below.refl base w5).alloc (by have := HB5.out.size; rw [hs4] at this; exact Nat.le_trans hbs2 this) _)).trans HB6.out)
        go_wp2_with (go_at_call 37; refine (take_l base Br (T1.drop n) _ z HFL.out hbb _ H6.out).mono ?_; rintro e w7 ⟨rfl, hr7, hb7, ho7, hs7⟩; have H7 := Lib.hid hr7; have HB8 := Lib.hid (HB7.out.trans hb7); clear hr7 hb7 ho7)
        go_roundw
        case rel =>
          refine ⟨(T1.drop n).drop z, O ++ (T1.take n ++ f k), H7.out, ?_, ?_, HB8.out, ?_, HG.out.belowN HB8.out hg⟩
          · rw [← HE.out, HTK.out]; simp [List.append_assoc]
          · have h1 := HLN.out
            have h2 := HH3.out
            have h3 := HNL.out
            have h4 := HFL.out
            have h5 := HFP.out
            simp only [List.length_append, List.length_drop, List.length_take] at h4 ⊢
            omega
          · have := HB8.out.size
            have h1 : base ≤ w.heap.size := by obtain ⟨v, h1, _⟩ := HR.out; have := h1.lt; omega
            omega
        case measure =>
          have h1 := H7.out.left
          have h2 := HLL.out
          have h3 := HNL.out
          have h4 := HFL.out
          have h5 := HFP.out
          rw [h1, h2, bs_size, bs_size, List.length_drop, List.length_drop]
          simp only [List.length_drop] at h4
          omega
  · rintro a' W ⟨u2, u3, u4, u5, u6, u7, u8, u9, u10, u11, u12, u13, u14, u15, u16, u17, u18, u19, u20, u21, u22, u23, u24, u25, u26, u27, u28, u29, u30, u31, u32, u33, u34, u35, u36, u37, u38, u39, u40, u41, u42, u43, u44, u45, u46, u47, u48, rfl, T1, O, hR, hE, hLn, hB⟩
    obtain ⟨hne, hr0, hown0⟩ := hR
    have c0 := hr0.cell 0
    simp at c0
    have hR : Rd base Br W (bs T1) O := ⟨hne, hr0, hown0⟩
    have HR1 := Lib.hid hR
    have HP := Lib.hid (put1 base Br (bs T1) O T1 hLn hbb W hR)
    have HE := Lib.hid hE
    have HB := Lib.hid hB
    clear hR hr0 hown0 hE hB
    have hbs : base ≤ W.heap.size := by obtain ⟨v, h1, _⟩ := HR1.out; have := h1.lt; omega
    go_wp2_with (go_at_call 36; refine HP.out.mono ?_; rintro e w6 ⟨⟨v6, rfl⟩, ⟨v7, hr6, ho6⟩, hb6, _⟩; have c1 := hr6.cell 1; simp at c1; have hcv := own_conv ho6; obtain ⟨a7, l7, k7, rfl⟩ := own_slice ho6; have H6 := Lib.hid hr6; have HO6 := Lib.hid ho6; have HB6 := Lib.hid hb6; clear hr6 ho6 hb6)
    simp only [Exit.jump]
    go_ret
    exact ⟨by rw [← HE.out]; rfl, (HB.out.alloc hbs _).trans HB6.out⟩

/-- Glyphs' and Ascii's ways to tell a sign. -/
theorem drawn_c (k : Nat) (W : World) : Calls Tryd.prog 31 #[signV k] W fun e w' => e = .returned (.string (bs (gl k))) ∧ Below W.heap.size W w' := by
  unfold signV
  go_enter Tryd.func31, Tryd.ntmps31
  go_wp2
  go_ret
  exact ⟨rfl, (Below.refl _ _).alloc (Nat.le_refl _) _⟩
theorem typed_c (k : Nat) (W : World) : Calls Tryd.prog 32 #[signV k] W fun e w' => e = .returned (.string (bs (ty k))) ∧ Below W.heap.size W w' := by
  unfold signV
  obtain ⟨g, hg⟩ : ∃ g, g = bs (gl k) := ⟨_, rfl⟩
  obtain ⟨d, hd⟩ : ∃ d, d = bs (di k) := ⟨_, rfl⟩
  by_cases h : di k = []
  · have hy : bs (ty k) = g := by unfold ty; rw [if_pos h, hg]
    have hdn : d.toList.isEmpty = true := by rw [hd, h]; decide +kernel
    rw [hy, ← hg, ← hd]
    clear hy hg hd h
    go_enter Tryd.func32, Tryd.ntmps32
    go_wp2
    go_ret
    exact ⟨rfl, (Below.refl _ _).alloc (Nat.le_refl _) _⟩
  · have hy : bs (ty k) = d := by unfold ty; rw [if_neg h, hd]
    have hdn : d.toList.isEmpty = false := by
      rw [hd]
      rcases Nat.lt_or_ge k 38 with hk | hk
      · exact (by decide +kernel : ∀ k, k < 38 → (di k).isEmpty = false → (bs (di k)).toList.isEmpty = false) k hk (by simpa using h)
      · exact absurd (by unfold di; rw [List.getElem?_eq_none (by exact hk)]; rfl) h
    rw [hy, ← hg, ← hd]
    clear hy hg hd h
    go_enter Tryd.func32, Tryd.ntmps32
    go_wp2
    go_ret
    exact ⟨rfl, (Below.refl _ _).alloc (Nat.le_refl _) _⟩
end Go.Proofs.YtldffmnmofmkaaaDoor
