/- Literal, of two texts. -/
import Derived.Test.YthlkgfplffdiaaaGreatDoorArG
import Derived.Test.YthlkgfplffdiaaaGreatDoorArOne
namespace Go.Proofs.YthlkgfplffdiaaaGreatDoor.Ar
open Go Go.RowKit Go.Shelf
attribute [local go_sem] Oper.semAt_some

set_option maxRecDepth 100000 in
set_option maxHeartbeats 4000000 in
theorem elit_c (k : Int) (f : Nat) (t : ByteArray) (R : Bool) (ns : List Int) (hf : (k = 1 ∧ f = 81) ∨ (k = 2 ∧ f = 83)) (eo : ∀ args W, (callFunc f args).run Tryz.prog W = .ok (.enter f args) W) (hr : ∀ W, AG W → Calls Tryz.prog f #[.string t] W fun e w' => Told R ns W e w') (w : World) (hG : AG w) : Calls Tryz.prog 19 #[.int .i64 k, .string t] w fun e w' => ∃ sa sn sc, e = .returned (.tuple #[.agg #[.bool true, .bool R, .slice sa sn sc], .int .i64 0]) ∧ KL w' (.slice sa sn sc) ns ∧ Below w.heap.size w w' := by
  obtain ⟨w2, hw2⟩ : ∃ w2, w2 = w.alloc (.cells #[.bool false, .bool false, .slice none 0 0] 24) := ⟨_, rfl⟩
  have hb2 : Below w.heap.size w w2 := by rw [hw2]; exact (Below.refl _ w).alloc (Nat.le_refl _) _
  have hs2 : w2.heap.size = w.heap.size + 1 := by rw [hw2]; simp
  have HO := Lib.hid (literal_c k f t R ns hf eo hr w2 (hG.below hb2))
  have HET : Hid (∀ W, Below w2.heap.size w2 W → Nu.ErrT W) := Lib.hid (fun W h => (hG.below hb2).ng.2.below h (hG.below hb2).ng.2.2)
  have HTO := Lib.hid (fun v c W h1 h2 => told_c v c W h1 h2)
  have r1 : Row w2 w.heap.size 24 #[.bool false, .bool false, .slice none 0 0] := by rw [hw2]; exact Row.new _ _ _
  have HB2 := Lib.hid hb2
  have HS2 := Lib.hid hs2
  have HR1 := Lib.hid r1
  rw [hw2] at HO
  have HW2 := Lib.hid hw2
  clear hf eo hr hG hb2 hs2 r1 hw2
  go_enter Tryz.func19, Tryz.ntmps19
  go_wp2_with (go_at_call 32; refine HO.out.mono ?_; rintro e w3 ⟨va, vn, vc, rfl, hk, hb⟩; rw [← HW2.out] at hb; have HB3 := Lib.hid hb; have HKL := Lib.hid hk; clear hk hb)
  obtain ⟨w4, hw4⟩ : ∃ w4, w4 = w3.alloc (.cells #[.bool true, .bool R, .slice va vn vc] 24) := ⟨_, rfl⟩
  rw [← hw4]
  have h34 : Below w3.heap.size w3 w4 := by rw [hw4]; exact (Below.refl _ _).alloc (Nat.le_refl _) _
  have r4 : Row w4 w3.heap.size 24 #[.bool true, .bool R, .slice va vn vc] := by rw [hw4]; exact Row.new _ _ _
  have hz3 := HB3.out.size
  have hz2 := HS2.out
  have hne : w.heap.size ≠ w3.heap.size := by omega
  have r1 : Row w4 w.heap.size 24 #[.bool false, .bool false, .slice none 0 0] := (HR1.out.below HB3.out (by omega)).below h34 (by omega)
  have h24 : Below w2.heap.size w2 w4 := HB3.out.trans (h34.mono hz3)
  have HT5 := Lib.hid (HTO.out .nilIface 0 w4.drew (HET.out _ h24.drew) (.inl ⟨rfl, rfl⟩))
  obtain ⟨c0, c1, c2, -, -, -⟩ := row3 r4
  have H24 := Lib.hid h24
  have HR4 := Lib.hid r4
  have HR1' := Lib.hid r1
  have HO4 := Lib.hid (HKL.out.below h34)
  clear hw4 h34 r4 r1 h24 hz3 hz2
  go_region_held_law (fun W => W.cell? ⟨w3.heap.size, 0, none⟩ = some (.bool true) ∧ W.cell? ⟨w3.heap.size, 1, none⟩ = some (.bool R) ∧ W.cell? ⟨w3.heap.size, 2, none⟩ = some (.slice va vn vc)) (first | exact ⟨c0, c1, c2⟩ | exact ⟨k0, k1, k2⟩ | go_keep) ((go_at_call 22; refine HT5.out.mono ?_; rintro e w5 ⟨rfl, hb5⟩; obtain ⟨k0, k1, k2, -, -, -⟩ := row3 (HR4.out.drew.below hb5 HR4.out.drew.lt); obtain ⟨m0, m1, m2, m3, m4, m5⟩ := row3 (HR1'.out.drew.below hb5 HR1'.out.drew.lt); have HB5 := Lib.hid hb5; clear hb5))
  go_wp2
  have h45 : Below w4.heap.size w4 w5 := Below.trans (Below.refl _ _).drew HB5.out
  have hz2 := HS2.out
  have hz4 := H24.out.size
  have r5 := HR1'.out.drew.below HB5.out HR1'.out.drew.lt
  obtain ⟨v0, v1, v2, -, -, -⟩ := row3 (row_set3 r5 (.bool true) (.bool R) (.slice va vn vc))
  have hb5 : Below w.heap.size w w5 := HB2.out.trans ((H24.out.trans (h45.mono hz4)).mono (by omega))
  exact bodyPost_ret (v := .tuple #[.agg #[.bool true, .bool R, .slice va vn vc], .int .i64 0]) (by simp [results, Tryz.f19, go_sem, v0, v1, v2]) rfl ⟨va, vn, vc, rfl, kl_set3 (HO4.out.below h45) r5 _ _ _, ((hb5.setCell (p := ⟨w.heap.size, 0, none⟩) (Nat.le_refl _) _).setCell (p := ⟨w.heap.size, 1, none⟩) (Nat.le_refl _) _).setCell (p := ⟨w.heap.size, 2, none⟩) (Nat.le_refl _) _⟩
theorem lit1_c (w : World) (hG : AG w) : Calls Tryz.prog 19 #[.int .i64 1, .string ⟨#[49, 32, 50, 32, 51]⟩] w fun e w' => ∃ sa sn sc, e = .returned (.tuple #[.agg #[.bool true, .bool false, .slice sa sn sc], .int .i64 0]) ∧ KL w' (.slice sa sn sc) [1, 2, 3] ∧ Below w.heap.size w w' :=
  elit_c 1 _ _ false _ (.inl ⟨rfl, rfl⟩) (enters_of Tryz.func81 (by kernel_rfl) rfl) (fun W h => rd1_c W h) w hG
theorem lit2_c (w : World) (hG : AG w) : Calls Tryz.prog 19 #[.int .i64 2, .string ⟨#[39, 97, 39, 39, 39]⟩] w fun e w' => ∃ sa sn sc, e = .returned (.tuple #[.agg #[.bool true, .bool true, .slice sa sn sc], .int .i64 0]) ∧ KL w' (.slice sa sn sc) [97, 39] ∧ Below w.heap.size w w' :=
  elit_c 2 _ _ true _ (.inr ⟨rfl, rfl⟩) (enters_of Tryz.func83 (by kernel_rfl) rfl) (fun W _ => rd2_c W) w hG
set_option maxRecDepth 100000 in
set_option maxHeartbeats 1000000 in
/-- Right(a). -/
theorem eright_c (a : Ary) (s : Value) (w : World) (hs : KL w s a.n) (hi : InL a.n) : Calls Tryz.prog 16 #[aryV a s] w fun e w' => e = .returned (.bool (rightA a)) ∧ Below w.heap.size w w' := by
  obtain ⟨w1, hw1⟩ : ∃ w1, w1 = w.alloc (.cells #[.bool a.list, .bool a.runes, s] 24) := ⟨_, rfl⟩
  have hb1 : Below w.heap.size w w1 := by rw [hw1]; exact (Below.refl _ _).alloc (Nat.le_refl _) _
  have hs1 : w1.heap.size = w.heap.size + 1 := by rw [hw1]; simp
  have hrt := right_1 a s w1 (hs.below hb1) hi
  rw [hs1, hw1] at hrt
  have HRT := Lib.hid hrt
  obtain ⟨r, hr⟩ : ∃ r, r = rightA a := ⟨_, rfl⟩
  rw [← hr] at HRT ⊢
  obtain ⟨L, R, N⟩ := a
  dsimp only [aryV] at *
  obtain ⟨sa, sc, hsf, -, -⟩ := hs.form
  obtain ⟨n, hn⟩ : ∃ n, n = N.length := ⟨_, rfl⟩
  rw [← hn] at hsf
  subst hsf
  have HW1 := Lib.hid hw1
  have HB1 := Lib.hid hb1
  clear hs hn hw1 hb1 hs1 hrt hi hr
  go_enter Tryz.func16, Tryz.ntmps16
  go_wp2_with (go_at_call 30; refine HRT.out.mono ?_; rintro e w2 ⟨rfl, hb⟩; rw [← HW1.out] at hb; have HB2 := Lib.hid hb; clear hb)
  go_ret
  exact ⟨rfl, HB1.out.trans (HB2.out.mono (by omega))⟩
end Go.Proofs.YthlkgfplffdiaaaGreatDoor.Ar
