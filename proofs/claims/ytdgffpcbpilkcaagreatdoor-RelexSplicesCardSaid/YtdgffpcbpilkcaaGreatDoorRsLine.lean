/- The plain lexer: a line's tokens. -/
import Derived.Test.YtdgffpcbpilkcaaGreatDoorRsFirst
namespace Go.Proofs.YtdgffpcbpilkcaaGreatDoor
namespace Rs
open Go Go.RowKit Go.Shelf
attribute [local go_sem] Oper.semAt_some

theorem own_keep {base : Nat} {t : TypeId} {sz : Nat} {X Y : World} {v : Value} {k : Nat} {xs : List Value} (h : X.ownsRow base t sz v k xs) (hb : Below X.heap.size X Y) : Y.ownsRow base t sz v k xs := by
  refine ⟨h.1, ?_⟩
  rcases h.2 with hn | ⟨g, cap, cur, e1, e2, e3, e4⟩
  · exact .inl hn
  · exact .inr ⟨g, cap, cur, e1, e2, (hb.block g (Array.getElem?_eq_some_iff.1 e3).1).trans e3, e4⟩
theorem sp_bounds (T : List UInt8) (h : T ≠ []) : 1 ≤ sp T ∧ sp T ≤ T.length := ⟨sp_pos h, sp_le h⟩

set_option maxRecDepth 100000 in
set_option maxHeartbeats 4000000 in
/-- Line(s): ITS TOKENS. -/
theorem rline_c (T : List UInt8) (hT : T.length ≤ 10000) (w : World) :
    Calls Tryz.prog 22 #[.string (bs T)] w fun e W' => ∃ v, e = .returned v ∧ OwnL W' w.heap.size v (toks sp T 0) ∧ Below w.heap.size w W' := by
  obtain ⟨i0, hi, hz0, hz1, hz2⟩ := info_tok
  obtain ⟨s0, hs0⟩ : ∃ s, s = bs T := ⟨_, rfl⟩
  rw [← hs0]
  have HS0 := Lib.hid hs0
  clear hs0
  go_enter Tryz.func22, Tryz.ntmps22
  go_wp2
  go_loopw [0, 3] (fun sv u wr => ∃ (R : List UInt8) (P : List Tk), sv = .string (bs R) ∧ R.length ≤ T.length ∧ P.length + R.length ≤ T.length ∧ toks sp T 0 = P ++ toks sp R 0 ∧ OwnL wr w.heap.size u P ∧ Below w.heap.size w wr)
    (fun sv _ _ => strLen sv)
  case atStart => exact ⟨T, [], by rw [HS0.out], Nat.le_refl _, by simp, rfl, World.ownsRow_nil _ _ _ _, Below.refl _ _⟩
  case round =>
    obtain ⟨R, P, rfl, hRl, hPR, htk, hown, hb0⟩ := hrel
    have HO := Lib.hid hown
    have HB0 := Lib.hid hb0
    have HTK := Lib.hid htk
    clear hown hb0 htk
    by_cases hR : R = []
    · subst hR
      have HE : Hid (OwnL wr w.heap.size u3 (toks sp T 0)) := Lib.hid (by rw [HTK.out, toks_nil, List.append_nil]; exact HO.out)
      have hne : (bs []).toList.isEmpty = true := by decide +kernel
      have hne2 : (bs []).toList = [] := by decide +kernel
      go_wp2
      go_ret
      exact ⟨_, rfl, HE.out, HB0.out⟩
    · have hcons := toks_cons sp sp_bounds hR
      obtain ⟨hl1, hl2, hl3⟩ := tk1_len sp sp_bounds hR
      have hF := first_c R (by omega) hR
      dsimp only [tokV] at hF
      obtain ⟨X, hX⟩ : ∃ X, X = tk1 sp R := ⟨_, rfl⟩
      rw [← hX] at hF hcons hl1 hl2
      obtain ⟨kd, hkd⟩ : ∃ kd : Int, kd = ((X.kind : Nat) : Int) := ⟨_, rfl⟩
      obtain ⟨U, hU⟩ : ∃ U, U = bs X.text := ⟨_, rfl⟩
      obtain ⟨G, hG⟩ : ∃ G, G = bs X.glyph := ⟨_, rfl⟩
      rw [← hkd, ← hU, ← hG] at hF
      obtain ⟨n, hn⟩ : ∃ n, n = U.size := ⟨_, rfl⟩
      have hnl : n = X.text.length := by rw [hn, hU, bs_size]
      have htl : tokL X = [.int .i64 kd, .string U, .string G] := by rw [hkd, hU, hG]; rfl
      obtain ⟨s, hs⟩ : ∃ s, s = bs R := ⟨_, rfl⟩
      have hsz : s.size = R.length := by rw [hs, bs_size]
      have hx1 : s.extract n s.size = bs (R.drop n) := by rw [hs, ext_drop]
      have hne : s.toList.isEmpty = false := Rp.nonempty s (by omega)
      have hne2 : ¬ s.toList = [] := fun e => by rw [e] at hne; cases hne
      rw [← hs] at hF ⊢
      have hU1 : U.size ≤ s.size := by omega
      have hs1 : s.size ≤ 10000 := by omega
      have hPl : P.length + 1 ≤ 10001 := by omega
      have HF := Lib.hid hF
      have HTL := Lib.hid htl
      have HN : Hid ((R.drop n).length ≤ T.length ∧ (P ++ [X]).length + (R.drop n).length ≤ T.length ∧ toks sp T 0 = (P ++ [X]) ++ toks sp (R.drop n) 0) := Lib.hid (by
        refine ⟨by rw [List.length_drop]; omega, by rw [List.length_drop, List.length_append, List.length_singleton]; omega, ?_⟩
        rw [HTK.out, hcons, ← hnl, List.append_assoc]
        rfl)
      have HX1 : Hid (s.extract U.size s.size = bs (R.drop n)) := Lib.hid (by rw [← hn]; exact hx1)
      have HM : Hid (strLen (.string (bs (R.drop n))) < strLen (.string s)) := Lib.hid (by simp only [strLen, bs_size, List.length_drop]; omega)
      have HONE : Hid (∀ u ∈ [Value.int .i64 kd, .string U, .string G], u.oneCell' = true) := Lib.hid (by intro u hu; simp at hu; rcases hu with rfl | rfl | rfl <;> rfl)
      have HLEN : Hid (P.length + 1 ≤ maxLen ∧ (P.length + 1) * 40 ≤ 140737488355328) := Lib.hid ⟨by unfold maxLen; omega, by omega⟩
      have hb0s := HB0.out.size
      clear hF htl hx1 hcons hl1 hl2 hl3 hX hkd hU hG hn hnl hs hsz
      go_wp2_with fail
      refine (HF.out wr).mono ?_
      rintro e w1 ⟨rfl, hb1⟩
      have HO1 := Lib.hid (own_keep HO.out hb1)
      have HB1 := Lib.hid (HB0.out.trans (hb1.mono hb0s))
      have hs1b := HB1.out.size
      clear hb1
      obtain ⟨C, hC⟩ : ∃ C, C = Obj.cells #[.int .i64 kd, .string U, .string G] 55 := ⟨_, rfl⟩
      have HO3 := Lib.hid ((HO1.out.alloc (.cells #[.int .i64 kd, .string U, .string G] 55)).alloc (.cells #[.int .i64 kd, .string U, .string G] 55))
      have hnw := World.news_of_block (World.alloc_heap_new (w1.alloc (.cells #[.int .i64 kd, .string U, .string G] 55)) (.cells #[.int .i64 kd, .string U, .string G] 55))
      rw [World.size_alloc] at hnw
      have HNW := Lib.hid hnw
      clear hnw
      have HB3 : Hid (Below w.heap.size w ((w1.alloc (.cells #[.int .i64 kd, .string U, .string G] 55)).alloc (.cells #[.int .i64 kd, .string U, .string G] 55))) := Lib.hid ((HB1.out.alloc hs1b _).alloc (by simp; omega) _)
      have rX : Row ((w1.alloc (.cells #[.int .i64 kd, .string U, .string G] 55)).alloc (.cells #[.int .i64 kd, .string U, .string G] 55)) w1.heap.size 55 #[.int .i64 kd, .string U, .string G] := (Row.new _ _ _).alloc _
      have RX := Lib.hid rX
      clear rX hC
      go_wp2_with (at_builtin; refine wpList_append_lies _ rfl (.tmp 13) (.tmp 15) 44 rfl w.heap.size 55 i0 (.agg #[.int .i64 0, .string ⟨#[]⟩, .string ⟨#[]⟩]) 3 40 Tryz.underlying44 hi hz0 hz1 hz2 rfl (by decide) u3 P.length (cellsL P) rfl HO3.out ⟨w1.heap.size + 1, 0, none⟩ 1 1 [.int .i64 kd, .string U, .string G] rfl rfl HNW.out HONE.out (by decide) HLEN.out.1 HLEN.out.2 HB3.out.size _ rfl ?_; intro g3 cap3 w4 hown4 hgrow4 _ _; have HO4 := Lib.hid hown4; have HB4 := Lib.hid (HB3.out.grown hgrow4 HB3.out.size (fun j ej => (HO3.out.lt j ej).1)); have hX1 : w4.cell? ⟨w1.heap.size, 1, none⟩ = some (.string U) := (hgrow4.cell_far ⟨w1.heap.size, 1, none⟩ (by rw [World.size_alloc, World.size_alloc]; exact Nat.lt_succ_of_lt (Nat.lt_succ_self _)) (fun e => Nat.lt_irrefl _ (HO1.out.lt _ e.symm).2)).trans (by rw [RX.out.cell]; rfl); clear hown4 hgrow4)
      go_roundw
      case rel =>
        refine ⟨R.drop n, P ++ [X], by rw [HX1.out], HN.out.1, HN.out.2.1, HN.out.2.2, ?_, HB4.out⟩
        show World.ownsRow _ _ _ _ _ _ _
        rw [cellsL_snoc, HTL.out, List.length_append, List.length_singleton]
        exact HO4.out
      case measure =>
        rw [HX1.out]
        exact HM.out
end Rs
end Go.Proofs.YtdgffpcbpilkcaaGreatDoor
