/- shown(). -/
import Derived.Test.YthlkgfplffdiaaaGreatDoorArShown
namespace Go.Proofs.YthlkgfplffdiaaaGreatDoor.Ar
open Go Go.RowKit Go.Shelf
attribute [local go_sem] Oper.semAt_some

theorem OutN.ok {L : Bool} {ns : List Int} {c : Int} {w w' : World} {e : Ending} (ho : OutN L ns c w e w') (hz : c = 0) : ∃ va vn vc, e = .returned (.tuple #[.agg #[.bool L, .bool false, .slice va vn vc], .int .i64 0]) ∧ IOwn w' w.heap.size (.slice va vn vc) ns ∧ Below w.heap.size w w' := by
  obtain ⟨hb, ⟨_, v, rfl, hown⟩ | ⟨h1, _⟩⟩ := ho
  · obtain ⟨va, vc, rfl, -, -⟩ := hown.form
    exact ⟨_, _, _, rfl, hown, hb⟩
  · exact absurd hz h1
theorem OutN.bad {L : Bool} {ns : List Int} {c : Int} {w w' : World} {e : Ending} (ho : OutN L ns c w e w') (hz : c ≠ 0) : e = .returned (.tuple #[.agg #[.bool false, .bool false, .slice none 0 0], .int .i64 c]) ∧ Below w.heap.size w w' := by
  obtain ⟨hb, ⟨h1, _⟩ | ⟨_, he⟩⟩ := ho
  · exact absurd h1 hz
  · exact ⟨he, hb⟩
theorem kl_new1 (W : World) (x : Int) : KL (W.alloc (.cells #[.int .i64 x] 2)) (.slice (some ⟨W.heap.size, 0, none⟩) 1 1) [x] := by
  refine ⟨⟨_, 1, rfl, Nat.le_refl _, by decide⟩, fun _ => ⟨_, 0, 1, rfl, by rw [World.size_alloc]; exact Nat.lt_succ_self _, fun j y hj => ?_⟩⟩
  have hjl : j < 1 := (List.getElem?_eq_some_iff.1 hj).1
  obtain rfl : j = 0 := by omega
  obtain rfl : x = y := by simpa using hj
  simp
theorem kl_new2 (W : World) (x y : Int) : KL (W.alloc (.cells #[.int .i64 x, .int .i64 y] 2)) (.slice (some ⟨W.heap.size, 0, none⟩) 2 2) [x, y] := by
  refine ⟨⟨_, 2, rfl, Nat.le_refl _, by decide⟩, fun _ => ⟨_, 0, 2, rfl, by rw [World.size_alloc]; exact Nat.lt_succ_self _, fun j z hj => ?_⟩⟩
  have hjl : j < 2 := (List.getElem?_eq_some_iff.1 hj).1
  obtain rfl | rfl : j = 0 ∨ j = 1 := by omega
  · obtain rfl : x = z := by simpa using hj
    simp
  · obtain rfl : y = z := by simpa using hj
    simp
theorem in_l {L : List Int} (h : L.all (fun x => decide (Nu.In x)) = true) : InL L := fun x hx => by
  rw [List.all_eq_true] at h
  simpa using h x hx
set_option maxRecDepth 100000 in
set_option maxHeartbeats 4000000 in
theorem shown11_c (w : World) (hG : AG w) : Calls Tryz.prog 8 #[] w fun e w' => e = .returned (.bool true) ∧ Below w.heap.size w w' := by
  have HG := Lib.hid hG
  clear hG
  go_enter Tryz.func8, Tryz.ntmps8
  go_wp2_with fail
  refine (lit1_c _ HG.out).mono ?_
  rintro e w1 ⟨sa, sn, sc, rfl, hk1, hb1⟩
  -- the first array's box, and one of a number
  obtain ⟨u1, hu1⟩ : ∃ u1, u1 = w1.alloc (.cells #[.bool true, .bool false, .slice sa sn sc] 24) := ⟨_, rfl⟩
  have hbu1 : Below w1.heap.size w1 u1 := by rw [hu1]; exact (Below.refl _ _).alloc (Nat.le_refl _) _
  have ru1 : Row u1 w1.heap.size 24 #[.bool true, .bool false, .slice sa sn sc] := by rw [hu1]; exact Row.new _ _ _
  have hsu1 : u1.heap.size = w1.heap.size + 1 := by rw [hu1]; simp
  have hbv1 := (Below.refl u1.heap.size u1).alloc (Nat.le_refl _) (.cells #[.int .i64 10] 2)
  have hdy := dy_c ⟨#[43]⟩ ⟨true, false, [1, 2, 3]⟩ ⟨false, false, [10]⟩ (.slice sa sn sc) (.slice (some ⟨u1.heap.size, 0, none⟩) 1 1) (u1.alloc (.cells #[.int .i64 10] 2)) ((hk1.below hbu1).below hbv1) (kl_new1 u1 10) (in_l (by decide)) (in_l (by decide)) (((HG.out.below hb1).below hbu1).below hbv1).ng
  rw [hsu1, hu1] at hdy
  have HD := Lib.hid hdy
  have HU1 := Lib.hid hu1
  have HSU1 := Lib.hid hsu1
  have HRU1 := Lib.hid ru1
  have HK1 := Lib.hid (hk1.below hbu1)
  have HB1 := Lib.hid (hb1.trans (hbu1.mono hb1.size))
  have HBV1 := Lib.hid hbv1
  clear hdy hu1 hsu1 hbu1 ru1 hbv1 hk1 hb1
  go_wp2_with fail
  refine HD.out.mono ?_
  rintro e w2 ho
  obtain ⟨ba, bn, bc, rfl, hown, hb⟩ := ho.ok dyE_a
  rw [← HU1.out] at hown hb
  have hkb := (hown.kl : KL _ _ _)
  have hb12 : Below u1.heap.size u1 w2 := HBV1.out.trans (hb.mono HBV1.out.size)
  -- the second's box, and a list of two
  obtain ⟨u2, hu2⟩ : ∃ u2, u2 = w2.alloc (.cells #[.bool true, .bool false, .slice ba bn bc] 24) := ⟨_, rfl⟩
  have hbu2 : Below w2.heap.size w2 u2 := by rw [hu2]; exact (Below.refl _ _).alloc (Nat.le_refl _) _
  have ru2 : Row u2 w2.heap.size 24 #[.bool true, .bool false, .slice ba bn bc] := by rw [hu2]; exact Row.new _ _ _
  have hsu2 : u2.heap.size = w2.heap.size + 1 := by rw [hu2]; simp
  have hb13 : Below u1.heap.size u1 u2 := hb12.trans (hbu2.mono hb12.size)
  have hbv2 := (Below.refl u2.heap.size u2).alloc (Nat.le_refl _) (.cells #[.int .i64 1, .int .i64 2] 2)
  have hka2 : KL u2 (.slice sa sn sc) [1, 2, 3] := HK1.out.below hb13
  have hdy := dy_c ⟨#[43]⟩ ⟨true, false, [1, 2, 3]⟩ ⟨true, false, [1, 2]⟩ (.slice sa sn sc) (.slice (some ⟨u2.heap.size, 0, none⟩) 2 2) (u2.alloc (.cells #[.int .i64 1, .int .i64 2] 2)) (hka2.below hbv2) (kl_new2 u2 1 2) (in_l (by decide)) (in_l (by decide)) (((HG.out.below HB1.out).below hb13).below hbv2).ng
  rw [hsu2, hu2] at hdy
  have HD2 := Lib.hid hdy
  have HU2 := Lib.hid hu2
  have HSU2 := Lib.hid hsu2
  have HRA2 := Lib.hid (HRU1.out.below hb13 (by rw [HSU1.out]; exact Nat.lt_succ_self _))
  have HRB2 := Lib.hid ru2
  have HKB2 := Lib.hid (hkb.below hbu2)
  have HB13 := Lib.hid hb13
  have HBV2 := Lib.hid hbv2
  clear hdy hu2 hsu2 hbu2 ru2 hbv2 hkb hb hb12 hb13 hka2 ho hown
  obtain ⟨c0, c1, c2, -, -, -⟩ := row3 HRA2.out
  rw [HU2.out] at c0 c1 c2
  dsimp only [Bool.true_or]
  go_wp2_with fail
  refine HD2.out.mono ?_
  rintro e w3 ho
  obtain ⟨rfl, hb⟩ := ho.bad (by rw [dyE_b]; decide)
  rw [dyE_b]
  rw [← HU2.out] at hb
  have hb23 : Below u2.heap.size u2 w3 := HBV2.out.trans (hb.mono HBV2.out.size)
  have HB33 := Lib.hid ((Below.refl w3.heap.size w3).alloc (Nat.le_refl _) (.cells #[.bool false, .bool false, .slice none 0 0] 24))
  have HRA3 := Lib.hid (HRA2.out.below hb23 HRA2.out.lt)
  have HRB3 := Lib.hid (HRB2.out.below hb23 HRB2.out.lt)
  have HKB3 := Lib.hid (HKB2.out.below hb23)
  have HB3 := Lib.hid (HB1.out.trans ((HB13.out.trans (hb23.mono HB13.out.size)).mono HB1.out.size))
  clear ho hb hb23 c0 c1 c2
  go_wp2_with fail
  refine (lit2_c _ (HG.out.below (HB3.out.trans (HB33.out.mono HB3.out.size)))).mono ?_
  rintro e w4 ⟨ca, cn, cc, rfl, hk4, hb4⟩
  have hb34 := HB33.out.trans (hb4.mono HB33.out.size)
  have HB34 := Lib.hid hb34
  have HB4 := Lib.hid (HB3.out.trans (hb34.mono HB3.out.size))
  obtain ⟨u4, hu4⟩ : ∃ u4, u4 = w4.alloc (.cells #[.bool true, .bool true, .slice ca cn cc] 24) := ⟨_, rfl⟩
  have hbu4 : Below w4.heap.size w4 u4 := by rw [hu4]; exact (Below.refl _ _).alloc (Nat.le_refl _) _
  have ru4 : Row u4 w4.heap.size 24 #[.bool true, .bool true, .slice ca cn cc] := by rw [hu4]; exact Row.new _ _ _
  have hb3u := hb34.trans (hbu4.mono hb34.size)
  have HU4 := Lib.hid hu4
  have HRC4 := Lib.hid ru4
  have HRB4 := Lib.hid (HRB3.out.below hb3u HRB3.out.lt)
  have HKB4 := Lib.hid (HKB3.out.below hb3u)
  have HKC4 := Lib.hid (hk4.below hbu4)
  have HBU4 := Lib.hid (HB3.out.trans (hb3u.mono HB3.out.size))
  clear hk4 hb4 hb34 hu4 hbu4 ru4 hb3u
  obtain ⟨c0, c1, c2, -, -, -⟩ := row3 HRB4.out
  rw [HU4.out] at c0 c1 c2
  have hp := print_a _ _ HKB4.out (HG.out.below HBU4.out)
  rw [HU4.out] at hp
  have HP := Lib.hid hp
  clear hp
  go_wp2_with fail
  refine HP.out.mono ?_
  rintro e w5 ⟨rfl, hb5⟩
  rw [← HU4.out] at hb5
  have HRC5 := Lib.hid (HRC4.out.below hb5 HRC4.out.lt)
  have HKC5 := Lib.hid (HKC4.out.below hb5)
  have HBU5 := Lib.hid (HBU4.out.trans (hb5.mono HBU4.out.size))
  clear hb5 c0 c1 c2
  obtain ⟨c0, c1, c2, -, -, -⟩ := row3 HRC5.out
  have HP := Lib.hid (print_q _ _ HKC5.out)
  go_wp2_with fail
  refine HP.out.mono ?_
  rintro e w6 ⟨rfl, hb6⟩
  have HRC6 := Lib.hid (HRC5.out.below hb6 HRC5.out.lt)
  have HKC6 := Lib.hid (HKC5.out.below hb6)
  have HBU6 := Lib.hid (HBU5.out.trans (hb6.mono HBU5.out.size))
  clear hb6 c0 c1 c2
  obtain ⟨c0, c1, c2, -, -, -⟩ := row3 HRC6.out
  have HP := Lib.hid (eright_c ⟨true, true, [97, 39]⟩ _ _ HKC6.out (in_l (by decide)))
  go_wp2_with fail
  refine HP.out.mono ?_
  rintro e w7 ⟨rfl, hb7⟩
  rw [show rightA ⟨true, true, [97, 39]⟩ = true from by decide]
  have HBU7 := Lib.hid (HBU6.out.trans (hb7.mono HBU6.out.size))
  clear hb7 c0 c1 c2
  have HB77 := Lib.hid ((Below.refl w7.heap.size w7).alloc (Nat.le_refl _) (.cells #[.int .i64 (-5)] 2))
  have HP := Lib.hid (print_b _ _ (kl_new1 w7 (-5)) (HG.out.below (HBU7.out.trans (HB77.out.mono HBU7.out.size))))
  go_wp2_with fail
  refine HP.out.mono ?_
  rintro e w8 ⟨rfl, hb8⟩
  have HBU8 := Lib.hid (HBU7.out.trans ((HB77.out.trans (hb8.mono HB77.out.size)).mono HBU7.out.size))
  clear hb8
  go_wp2_with fail
  go_ret
  exact ⟨rfl, HBU8.out⟩
end Go.Proofs.YthlkgfplffdiaaaGreatDoor.Ar
