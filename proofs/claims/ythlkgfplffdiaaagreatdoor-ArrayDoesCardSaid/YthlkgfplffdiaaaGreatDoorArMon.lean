/- Mon. -/
import Derived.Test.YthlkgfplffdiaaaGreatDoorArOne
import Derived.Deep.RegionHeldLaw
namespace Go.Proofs.YthlkgfplffdiaaaGreatDoor.Ar
open Go Go.RowKit Go.Shelf
attribute [local go_sem] Oper.semAt_some

theorem OutE.ok {L : Bool} {ns : List Int} {c : Int} {w w' : World} {e : Ending} (ho : OutE L ns c w e w') (hz : c = 0) : ∃ va vn vc, e = .returned (.tuple #[.agg #[.bool L, .bool false, .slice va vn vc], .nilIface]) ∧ IOwn w' w.heap.size (.slice va vn vc) ns ∧ Below w.heap.size w w' := by
  obtain ⟨hb, ⟨_, v, rfl, hown⟩ | ⟨h1, _⟩⟩ := ho
  · obtain ⟨va, vc, rfl, -, -⟩ := hown.form
    exact ⟨_, _, _, rfl, hown, hb⟩
  · exact absurd hz h1
theorem OutE.bad {L : Bool} {ns : List Int} {c : Int} {w w' : World} {e : Ending} (ho : OutE L ns c w e w') (hz : c ≠ 0) : ∃ x y, e = .returned (.tuple #[.agg #[.bool false, .bool false, .slice none 0 0], .iface x y]) ∧ ErrA (.iface x y) c ∧ Below w.heap.size w w' := by
  obtain ⟨hb, ⟨h1, _⟩ | ⟨_, ev, rfl, he⟩⟩ := ho
  · exact absurd h1 hz
  · rcases he with ⟨rfl, _⟩ | rfl | ⟨s, rfl⟩
    · exact absurd rfl hz
    · exact ⟨_, _, rfl, .inr (.inl rfl), hb⟩
    · exact ⟨_, _, rfl, .inr (.inr ⟨s, rfl⟩), hb⟩
set_option maxRecDepth 100000 in
set_option maxHeartbeats 4000000 in
theorem mon_c (g : ByteArray) (a : Ary) (s : Value) (w : World) (hs : KL w s a.n) (hi : InL a.n) (hG : Nu.NG w) : Calls Tryz.prog 10 #[.string g, aryV a s] w fun e w' => OutN (a.list) (monL g a) (monE g a) w e w' := by
  obtain ⟨w2, hw2⟩ : ∃ w2, w2 = (w.alloc (.cells #[.bool a.list, .bool a.runes, s] 24)).alloc (.cells #[.bool false, .bool false, .slice none 0 0] 24) := ⟨_, rfl⟩
  have hb2 : Below w.heap.size w w2 := by rw [hw2]; exact ((Below.refl _ w).alloc (Nat.le_refl _) _).alloc (by simp) _
  have hs2 : w2.heap.size = w.heap.size + 2 := by rw [hw2]; simp
  have HO := Lib.hid (ofOne_c g a s w2 (hs.below hb2) hi (hG.below hb2))
  obtain ⟨c, hc⟩ : ∃ c, c = monE g a := ⟨_, rfl⟩
  obtain ⟨ns, hns⟩ : ∃ ns, ns = monL g a := ⟨_, rfl⟩
  obtain ⟨LL, hLL⟩ : ∃ LL, LL = (a.list) := ⟨_, rfl⟩
  rw [← hc, ← hns, ← hLL] at HO ⊢
  have HET : Hid (∀ W, Below w2.heap.size w2 W → Nu.ErrT W) := Lib.hid (fun W h => (hG.below hb2).2.below h (hG.below hb2).2.2)
  have HTO := Lib.hid (fun v c W h1 h2 => told_c v c W h1 h2)
  have r1 : Row w2 (w.heap.size + 1) 24 #[.bool false, .bool false, .slice none 0 0] := by rw [hw2]; exact Row.at _ _ _ _ (by simp)
  obtain ⟨aL, aR, aN⟩ := a
  dsimp only [aryV] at *
  obtain ⟨sa, sc, hsf, -, -⟩ := hs.form
  obtain ⟨sn, hsn⟩ : ∃ sn, sn = aN.length := ⟨_, rfl⟩
  rw [← hsn] at hsf
  subst hsf
  have HB2 := Lib.hid hb2
  have HS2 := Lib.hid hs2
  have HR1 := Lib.hid r1
  rw [hw2] at HO
  have HW2 := Lib.hid hw2
  clear hs hi hsn hG hc hns hLL hb2 hs2 r1 hw2
  by_cases hz : c = 0
  · go_enter Tryz.func10, Tryz.ntmps10
    go_wp2_with (go_at_call 21; refine HO.out.mono ?_; rintro e w3 ho; obtain ⟨va, vn, vc, rfl, hown, hb⟩ := ho.ok hz; rw [← HW2.out] at hown hb; have HB3 := Lib.hid hb; have HOWN := Lib.hid hown; clear ho hown hb)
    obtain ⟨w4, hw4⟩ : ∃ w4, w4 = w3.alloc (.cells #[.bool LL, .bool false, .slice va vn vc] 24) := ⟨_, rfl⟩
    rw [← hw4]
    have h34 : Below w3.heap.size w3 w4 := by rw [hw4]; exact (Below.refl _ _).alloc (Nat.le_refl _) _
    have r4 : Row w4 w3.heap.size 24 #[.bool LL, .bool false, .slice va vn vc] := by rw [hw4]; exact Row.new _ _ _
    have hz3 := HB3.out.size
    have hz2 := HS2.out
    have hne : w.heap.size + 1 ≠ w3.heap.size := by omega
    have r1 : Row w4 (w.heap.size + 1) 24 #[.bool false, .bool false, .slice none 0 0] := (HR1.out.below HB3.out (by omega)).below h34 (by omega)
    have h24 : Below w2.heap.size w2 w4 := HB3.out.trans (h34.mono hz3)
    have HT5 := Lib.hid (HTO.out (.nilIface) 0 w4.drew (HET.out _ h24.drew) (.inl ⟨rfl, rfl⟩))
    obtain ⟨c0, c1, c2, -, -, -⟩ := row3 r4
    have H24 := Lib.hid h24
    have HR4 := Lib.hid r4
    have HR1' := Lib.hid r1
    have HO4 := Lib.hid (HOWN.out.below h34)
    clear hw4 h34 r4 r1 h24 hz3 hz2
    go_region_held_law (fun W => W.cell? ⟨w3.heap.size, 0, none⟩ = some (.bool LL) ∧ W.cell? ⟨w3.heap.size, 1, none⟩ = some (.bool false) ∧ W.cell? ⟨w3.heap.size, 2, none⟩ = some (.slice va vn vc)) (first | exact ⟨c0, c1, c2⟩ | exact ⟨k0, k1, k2⟩ | go_keep) ((go_at_call 22; refine HT5.out.mono ?_; rintro e w5 ⟨rfl, hb5⟩; obtain ⟨k0, k1, k2, -, -, -⟩ := row3 (HR4.out.drew.below hb5 HR4.out.drew.lt); obtain ⟨m0, m1, m2, m3, m4, m5⟩ := row3 (HR1'.out.drew.below hb5 HR1'.out.drew.lt); have HB5 := Lib.hid hb5; clear hb5))
    go_wp2
    have h45 : Below w4.heap.size w4 w5 := Below.trans (Below.refl _ _).drew HB5.out
    have hz2 := HS2.out
    have hz4 := H24.out.size
    have r5 := HR1'.out.drew.below HB5.out HR1'.out.drew.lt
    obtain ⟨v0, v1, v2, -, -, -⟩ := row3 (row_set3 r5 (.bool LL) (.bool false) (.slice va vn vc))
    have hb5 : Below w.heap.size w w5 := HB2.out.trans ((H24.out.trans (h45.mono hz4)).mono (by omega))
    refine bodyPost_ret (v := .tuple #[.agg #[.bool LL, .bool false, .slice va vn vc], .int .i64 0]) (by simp [results, Tryz.f10, go_sem, v0, v1, v2]) rfl ⟨((hb5.setCell (p := ⟨w.heap.size + 1, 0, none⟩) (by show w.heap.size ≤ w.heap.size + 1; omega) _).setCell (p := ⟨w.heap.size + 1, 1, none⟩) (by show w.heap.size ≤ w.heap.size + 1; omega) _).setCell (p := ⟨w.heap.size + 1, 2, none⟩) (by show w.heap.size ≤ w.heap.size + 1; omega) _, .inl ⟨hz, _, rfl, (own_off3 (HO4.out.below h45) r5 _ _ _).mono (by omega)⟩⟩
  · go_enter Tryz.func10, Tryz.ntmps10
    go_wp2_with (go_at_call 21; refine HO.out.mono ?_; rintro e w3 ho; obtain ⟨ex, ey, rfl, he, hb⟩ := ho.bad hz; rw [← HW2.out] at hb; have HB3 := Lib.hid hb; have HER := Lib.hid he; clear ho hb he)
    obtain ⟨w4, hw4⟩ : ∃ w4, w4 = w3.alloc (.cells #[.bool false, .bool false, .slice none 0 0] 24) := ⟨_, rfl⟩
    rw [← hw4]
    have h34 : Below w3.heap.size w3 w4 := by rw [hw4]; exact (Below.refl _ _).alloc (Nat.le_refl _) _
    have r4 : Row w4 w3.heap.size 24 #[.bool false, .bool false, .slice none 0 0] := by rw [hw4]; exact Row.new _ _ _
    have hz3 := HB3.out.size
    have hz2 := HS2.out
    have hne : w.heap.size + 1 ≠ w3.heap.size := by omega
    have r1 : Row w4 (w.heap.size + 1) 24 #[.bool false, .bool false, .slice none 0 0] := (HR1.out.below HB3.out (by omega)).below h34 (by omega)
    have h24 : Below w2.heap.size w2 w4 := HB3.out.trans (h34.mono hz3)
    have HT5 := Lib.hid (HTO.out (.iface ex ey) c w4.drew (HET.out _ h24.drew) (HER.out))
    obtain ⟨c0, c1, c2, -, -, -⟩ := row3 r4
    have H24 := Lib.hid h24
    have HR4 := Lib.hid r4
    have HR1' := Lib.hid r1
    skip
    clear hw4 h34 r4 r1 h24 hz3 hz2
    go_region_held_law (fun W => W.cell? ⟨w3.heap.size, 0, none⟩ = some (.bool false) ∧ W.cell? ⟨w3.heap.size, 1, none⟩ = some (.bool false) ∧ W.cell? ⟨w3.heap.size, 2, none⟩ = some (.slice none 0 0)) (first | exact ⟨c0, c1, c2⟩ | exact ⟨k0, k1, k2⟩ | go_keep) ((go_at_call 22; refine HT5.out.mono ?_; rintro e w5 ⟨rfl, hb5⟩; obtain ⟨k0, k1, k2, -, -, -⟩ := row3 (HR4.out.drew.below hb5 HR4.out.drew.lt); obtain ⟨m0, m1, m2, m3, m4, m5⟩ := row3 (HR1'.out.drew.below hb5 HR1'.out.drew.lt); have HB5 := Lib.hid hb5; clear hb5))
    go_wp2
    have h45 : Below w4.heap.size w4 w5 := Below.trans (Below.refl _ _).drew HB5.out
    have hz2 := HS2.out
    have hz4 := H24.out.size
    have r5 := HR1'.out.drew.below HB5.out HR1'.out.drew.lt
    obtain ⟨v0, v1, v2, -, -, -⟩ := row3 (row_set3 r5 (.bool false) (.bool false) (.slice none 0 0))
    have hb5 : Below w.heap.size w w5 := HB2.out.trans ((H24.out.trans (h45.mono hz4)).mono (by omega))
    refine bodyPost_ret (v := .tuple #[.agg #[.bool false, .bool false, .slice none 0 0], .int .i64 c]) (by simp [results, Tryz.f10, go_sem, v0, v1, v2]) rfl ⟨((hb5.setCell (p := ⟨w.heap.size + 1, 0, none⟩) (by show w.heap.size ≤ w.heap.size + 1; omega) _).setCell (p := ⟨w.heap.size + 1, 1, none⟩) (by show w.heap.size ≤ w.heap.size + 1; omega) _).setCell (p := ⟨w.heap.size + 1, 2, none⟩) (by show w.heap.size ≤ w.heap.size + 1; omega) _, .inr ⟨hz, rfl⟩⟩
end Go.Proofs.YthlkgfplffdiaaaGreatDoor.Ar
