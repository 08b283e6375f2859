/- Merged by gen/sh_merge.py: ShIs, ShPrt, ShShw. -/
import Derived.Test.YteclpoooggcdoaaGreatDoorShDy
import Derived.Test.YteclpoooggcdoaaGreatDoorArShown
import Derived.Test.YteclpoooggcdoaaGreatDoorArSh
import Derived.Test.YteclpoooggcdoaaGreatDoorShA
/- shape's IsMon, IsDy; what the laws show first (by wip/gen/mkshsh.py). -/
namespace Go.Proofs.YteclpoooggcdoaaGreatDoor.Ar
open Go Go.RowKit Go.Shelf
attribute [local go_sem] Oper.semAt_some

set_option maxRecDepth 100000 in
set_option maxHeartbeats 1000000 in
theorem sisMon_c (g : ByteArray) (w : World) : Calls Tryz.prog 19 #[.string g] w fun e w' => e = .returned (.bool (decide (whichS g < 7) && !decide (whichS g = 5))) ∧ Below w.heap.size w w' := by
  obtain ⟨fp, fq, hpq, hdo⟩ := fs1_eq (whichS g)
  have hf : ∃ b : Bool, (F1 (whichS g)).isSome = b ∧ (decide (whichS g < 7) && !decide (whichS g = 5)) = b := by
    have h7 := whichS_le g
    generalize whichS g = k at h7 ⊢
    have : k = 0 ∨ k = 1 ∨ k = 2 ∨ k = 3 ∨ k = 4 ∨ k = 5 ∨ k = 6 ∨ k = 7 := by omega
    rcases this with h | h | h | h | h | h | h | h <;> subst h <;> exact ⟨_, rfl, rfl⟩
  obtain ⟨b, hb1, hb2⟩ := hf
  rw [hb2]
  have HFI : Hid (Calls Tryz.prog 31 #[.string g] w fun e w' => e = .returned (.agg #[fp, fq]) ∧ Below w.heap.size w w') := Lib.hid (by rw [← hpq]; exact find_c g w)
  rcases hF : F1 (whichS g) with _ | f
  · rw [hF] at hb1 hdo
    obtain rfl : b = false := hb1.symm
    obtain rfl : fp = .nilFunc := hdo
    clear hb1 hb2 hpq hF
    go_enter Tryz.func19, Tryz.ntmps19
    go_wp2_with (go_at_call 31; refine HFI.out.mono ?_; rintro e w3 ⟨rfl, hb⟩; have HB3 := Lib.hid hb; have hs0 := sfield0 .nilFunc fq w3; have hq := sne_nil w3; clear hb)
    go_ret
    exact ⟨rfl, HB3.out⟩
  · rw [hF] at hb1 hdo
    obtain rfl : b = true := hb1.symm
    obtain rfl : fp = fnS f := hdo
    clear hb1 hb2 hpq hF
    go_enter Tryz.func19, Tryz.ntmps19
    go_wp2_with (go_at_call 31; refine HFI.out.mono ?_; rintro e w3 ⟨rfl, hb⟩; have HB3 := Lib.hid hb; have hs0 := sfield0 (fnS f) fq w3; have hq := sne_fn f w3; clear hb)
    go_ret
    exact ⟨rfl, HB3.out⟩
set_option maxRecDepth 100000 in
set_option maxHeartbeats 1000000 in
theorem sisDy_c (g : ByteArray) (w : World) : Calls Tryz.prog 21 #[.string g] w fun e w' => e = .returned (.bool (decide (whichS g < 7))) ∧ Below w.heap.size w w' := by
  obtain ⟨fp, fq, hpq, hdo⟩ := fs2_eq (whichS g)
  have hf : ∃ b : Bool, (F2 (whichS g)).isSome = b ∧ (decide (whichS g < 7)) = b := by
    have h7 := whichS_le g
    generalize whichS g = k at h7 ⊢
    have : k = 0 ∨ k = 1 ∨ k = 2 ∨ k = 3 ∨ k = 4 ∨ k = 5 ∨ k = 6 ∨ k = 7 := by omega
    rcases this with h | h | h | h | h | h | h | h <;> subst h <;> exact ⟨_, rfl, rfl⟩
  obtain ⟨b, hb1, hb2⟩ := hf
  rw [hb2]
  have HFI : Hid (Calls Tryz.prog 31 #[.string g] w fun e w' => e = .returned (.agg #[fp, fq]) ∧ Below w.heap.size w w') := Lib.hid (by rw [← hpq]; exact find_c g w)
  rcases hF : F2 (whichS g) with _ | f
  · rw [hF] at hb1 hdo
    obtain rfl : b = false := hb1.symm
    obtain rfl : fq = .nilFunc := hdo
    clear hb1 hb2 hpq hF
    go_enter Tryz.func21, Tryz.ntmps21
    go_wp2_with (go_at_call 31; refine HFI.out.mono ?_; rintro e w3 ⟨rfl, hb⟩; have HB3 := Lib.hid hb; have hs0 := sfield1 fp .nilFunc w3; have hq := sne_nil w3; clear hb)
    go_ret
    exact ⟨rfl, HB3.out⟩
  · rw [hF] at hb1 hdo
    obtain rfl : b = true := hb1.symm
    obtain rfl : fq = fnS f := hdo
    clear hb1 hb2 hpq hF
    go_enter Tryz.func21, Tryz.ntmps21
    go_wp2_with (go_at_call 31; refine HFI.out.mono ?_; rintro e w3 ⟨rfl, hb⟩; have HB3 := Lib.hid hb; have hs0 := sfield1 fp (fnS f) w3; have hq := sne_fn f w3; clear hb)
    go_ret
    exact ⟨rfl, HB3.out⟩
end Go.Proofs.YteclpoooggcdoaaGreatDoor.Ar
/- What shape's laws show first: the texts of three arrays; a number, a list; the first twenty bytes. -/
namespace Go.Proofs.YteclpoooggcdoaaGreatDoor.Ar
open Go Go.RowKit Go.Shelf
attribute [local go_sem] Oper.semAt_some

theorem i_1 : Lib.itoa 1 = [49] := by rw [Lib.itoa, if_neg (by decide), dig_small (by decide)]; decide
theorem i_2 : Lib.itoa 2 = [50] := by rw [Lib.itoa, if_neg (by decide), dig_small (by decide)]; decide
theorem i_0 : Lib.itoa 0 = [48] := by rw [Lib.itoa, if_neg (by decide), dig_small (by decide)]; decide
theorem d_1 : decT 1 = [49] := by rw [decT, i_1]; decide
theorem d_2 : decT 2 = [50] := by rw [decT, i_2]; decide
theorem d_0 : decT 0 = [48] := by rw [decT, i_0]; decide
theorem k_12121 : decK [1, 2, 1, 2, 1] 5 = [49, 32, 50, 32, 49, 32, 50, 32, 49] := by
  show (((([] ++ (if 0 < 0 then [32] else []) ++ decT 1) ++ (if 0 < 1 then [32] else []) ++ decT 2) ++ (if 0 < 2 then [32] else []) ++ decT 1) ++ (if 0 < 3 then [32] else []) ++ decT 2) ++ (if 0 < 4 then [32] else []) ++ decT 1 = _
  rw [d_1, d_2]
  decide
theorem k_012 : decK [0, 1, 2] 3 = [48, 32, 49, 32, 50] := by
  show (([] ++ (if 0 < 0 then [32] else []) ++ decT 0) ++ (if 0 < 1 then [32] else []) ++ decT 1) ++ (if 0 < 2 then [32] else []) ++ decT 2 = _
  rw [d_0, d_1, d_2]
  decide
theorem small_1 (x : Int) (h : x = 0 ∨ x = 1 ∨ x = 2) : (Lib.itoa x).length ≤ 100 ∧ Lib.countB ⟨(Lib.itoa x).toArray⟩ ⟨#[45]⟩ ≤ 100 := by
  rcases h with rfl | rfl | rfl
  · rw [i_0]; decide
  · rw [i_1]; decide
  · rw [i_2]; decide
set_option maxRecDepth 100000 in
theorem sprint_a (s : Value) (w : World) (hs : KL w s [1, 2, 1, 2, 1]) (hG : AG w) : Calls Tryz.prog 29 #[.agg #[.bool true, .bool false, s]] w fun e w' => e = .returned (.string ⟨#[49, 32, 50, 32, 49, 32, 50, 32, 49]⟩) ∧ Below w.heap.size w w' := by
  have hi : InL [1, 2, 1, 2, 1] := in_l (by decide)
  refine print_c ⟨true, false, [1, 2, 1, 2, 1]⟩ s ⟨#[49, 32, 50, 32, 49, 32, 50, 32, 49]⟩ w hs hi (by decide) (.inr (by decide)) (fun h => by cases h) (fun _ W h => ?_)
  have := decimals_c ⟨true, false, [1, 2, 1, 2, 1]⟩ s W (hs.below h) hi (hG.below h) (by decide) (fun k hk => by
    have hk' : k < 5 := hk
    obtain rfl | rfl | rfl | rfl | rfl : k = 0 ∨ k = 1 ∨ k = 2 ∨ k = 3 ∨ k = 4 := by omega
    · show (decK [1, 2, 1, 2, 1] 0).length ≤ 1000 ∧ (Lib.itoa 1).length ≤ 100 ∧ Lib.countB ⟨(Lib.itoa 1).toArray⟩ ⟨#[45]⟩ ≤ 100 ∧ (decT 1).length ≤ 1000
      rw [i_1, d_1]
      decide
    · show (decT 1).length ≤ 1000 ∧ (Lib.itoa 2).length ≤ 100 ∧ Lib.countB ⟨(Lib.itoa 2).toArray⟩ ⟨#[45]⟩ ≤ 100 ∧ (decT 2).length ≤ 1000
      rw [d_1, i_2, d_2]
      decide
    · show (decT 1 ++ [32] ++ decT 2).length ≤ 1000 ∧ (Lib.itoa 1).length ≤ 100 ∧ Lib.countB ⟨(Lib.itoa 1).toArray⟩ ⟨#[45]⟩ ≤ 100 ∧ (decT 1).length ≤ 1000
      rw [d_1, d_2, i_1]
      decide
    · show (decT 1 ++ [32] ++ decT 2 ++ [32] ++ decT 1).length ≤ 1000 ∧ (Lib.itoa 2).length ≤ 100 ∧ Lib.countB ⟨(Lib.itoa 2).toArray⟩ ⟨#[45]⟩ ≤ 100 ∧ (decT 2).length ≤ 1000
      rw [d_1, d_2, i_2]
      decide
    · show (decT 1 ++ [32] ++ decT 2 ++ [32] ++ decT 1 ++ [32] ++ decT 2).length ≤ 1000 ∧ (Lib.itoa 1).length ≤ 100 ∧ Lib.countB ⟨(Lib.itoa 1).toArray⟩ ⟨#[45]⟩ ≤ 100 ∧ (decT 1).length ≤ 1000
      rw [d_1, d_2, i_1]
      decide)
  rw [show decK (⟨true, false, [1, 2, 1, 2, 1]⟩ : Ary).n (⟨true, false, [1, 2, 1, 2, 1]⟩ : Ary).n.length = [49, 32, 50, 32, 49, 32, 50, 32, 49] from k_12121] at this
  exact this
set_option maxRecDepth 100000 in
theorem sprint_b (s : Value) (w : World) (hs : KL w s [0, 1, 2]) (hG : AG w) : Calls Tryz.prog 29 #[.agg #[.bool true, .bool false, s]] w fun e w' => e = .returned (.string ⟨#[48, 32, 49, 32, 50]⟩) ∧ Below w.heap.size w w' := by
  have hi : InL [0, 1, 2] := in_l (by decide)
  refine print_c ⟨true, false, [0, 1, 2]⟩ s ⟨#[48, 32, 49, 32, 50]⟩ w hs hi (by decide) (.inr (by decide)) (fun h => by cases h) (fun _ W h => ?_)
  have := decimals_c ⟨true, false, [0, 1, 2]⟩ s W (hs.below h) hi (hG.below h) (by decide) (fun k hk => by
    have hk' : k < 3 := hk
    obtain rfl | rfl | rfl : k = 0 ∨ k = 1 ∨ k = 2 := by omega
    · show (decK [0, 1, 2] 0).length ≤ 1000 ∧ (Lib.itoa 0).length ≤ 100 ∧ Lib.countB ⟨(Lib.itoa 0).toArray⟩ ⟨#[45]⟩ ≤ 100 ∧ (decT 0).length ≤ 1000
      rw [i_0, d_0]
      decide
    · show (decT 0).length ≤ 1000 ∧ (Lib.itoa 1).length ≤ 100 ∧ Lib.countB ⟨(Lib.itoa 1).toArray⟩ ⟨#[45]⟩ ≤ 100 ∧ (decT 1).length ≤ 1000
      rw [d_0, i_1, d_1]
      decide
    · show (decT 0 ++ [32] ++ decT 1).length ≤ 1000 ∧ (Lib.itoa 2).length ≤ 100 ∧ Lib.countB ⟨(Lib.itoa 2).toArray⟩ ⟨#[45]⟩ ≤ 100 ∧ (decT 2).length ≤ 1000
      rw [d_0, d_1, i_2, d_2]
      decide)
  rw [show decK (⟨true, false, [0, 1, 2]⟩ : Ary).n (⟨true, false, [0, 1, 2]⟩ : Ary).n.length = [48, 32, 49, 32, 50] from k_012] at this
  exact this
set_option maxRecDepth 100000 in
theorem sprint_q (s : Value) (w : World) (hs : KL w s [98, 99, 97]) : Calls Tryz.prog 29 #[.agg #[.bool true, .bool true, s]] w fun e w' => e = .returned (.string ⟨#[39, 98, 99, 97, 39]⟩) ∧ Below w.heap.size w w' := by
  have hi : InL [98, 99, 97] := in_l (by decide)
  refine print_c ⟨true, true, [98, 99, 97]⟩ s ⟨#[39, 98, 99, 97, 39]⟩ w hs hi (by decide) (.inr (by decide)) (fun _ W h => ?_) (fun h => by cases h)
  have := quoted_c ⟨true, true, [98, 99, 97]⟩ s W (hs.below h) (by intro x hx; simp at hx; rcases hx with rfl | rfl | rfl <;> decide) (by decide)
  rw [show quoK (⟨true, true, [98, 99, 97]⟩ : Ary).n (⟨true, true, [98, 99, 97]⟩ : Ary).n.length ++ [39] = [39, 98, 99, 97, 39] from by decide] at this
  exact this
theorem skl_new3 (W : World) (x y z : Int) : KL (W.alloc (.cells #[.int .i64 x, .int .i64 y, .int .i64 z] 2)) (.slice (some ⟨W.heap.size, 0, none⟩) 3 3) [x, y, z] := kl_of_row (L := [x, y, z]) (Row.new _ _ _) (by simp)
set_option maxRecDepth 100000 in
set_option maxHeartbeats 1000000 in
theorem lone_c (x : Int) (w : World) : Calls Tryz.prog 26 #[.int .i64 x] w fun e w' => ∃ va vn vc, e = .returned (.agg #[.bool false, .bool false, .slice va vn vc]) ∧ KL w' (.slice va vn vc) [x] ∧ Below w.heap.size w w' := by
  go_enter Tryz.func26, Tryz.ntmps26
  go_wp2
  refine bodyPost_ret (v := .agg #[.bool false, .bool false, .slice (some ⟨w.heap.size + 1, 0, none⟩) 1 1]) (by simp [results, Tryz.f26, go_sem]) rfl ⟨_, _, _, rfl, kl_of_row (L := [x]) (Row.at _ _ _ _ (by simp)) (by simp), ((Below.refl _ _).alloc (Nat.le_refl _) _).alloc (by simp) _⟩
set_option maxRecDepth 100000 in
set_option maxHeartbeats 1000000 in
theorem llist_c (a : Option Addr) (n c : Nat) (L : List Int) (w : World) (hk : KL w (.slice a n c) L) : Calls Tryz.prog 28 #[.slice a n c] w fun e w' => e = .returned (.agg #[.bool true, .bool false, .slice a n c]) ∧ KL w' (.slice a n c) L ∧ Below w.heap.size w w' := by
  have HB := Lib.hid ((Below.refl w.heap.size w).alloc (Nat.le_refl _) (.cells #[.bool true, .bool false, .slice a n c] 24))
  have HK := Lib.hid (hk.below HB.out)
  clear hk
  go_enter Tryz.func28, Tryz.ntmps28
  go_wp2
  refine bodyPost_ret (v := .agg #[.bool true, .bool false, .slice a n c]) (by simp [results, Tryz.f28, go_sem]) rfl ⟨rfl, HK.out, HB.out⟩
/-- The first twenty bytes. -/
theorem sshort_c (s : ByteArray) (hs : s.size ≤ maxLen) (w : World) : Calls Tryz.prog 13 #[.string s] w fun e w' => e = .returned (.string (s.extract 0 (min s.size 20))) ∧ w' = w := by
  unfold maxLen at hs
  have e : min s.size 20 = (min (s.size : Int) 20).toNat := by omega
  have HE := Lib.hid e
  clear e
  go_enter Tryz.func13, Tryz.ntmps13
  go_wp2
  go_ret
  exact ⟨by rw [HE.out]; rfl, rfl⟩
end Go.Proofs.YteclpoooggcdoaaGreatDoor.Ar
/- What shape's laws show first (by wip/gen/mkshown.py). -/
namespace Go.Proofs.YteclpoooggcdoaaGreatDoor.Ar
open Go Go.RowKit Go.Shelf
attribute [local go_sem] Oper.semAt_some

theorem t_a : sdE ⟨#[226, 141, 180]⟩ ⟨false, false, [5]⟩ ⟨true, false, [1, 2]⟩ = 0 ∧ sdA ⟨#[226, 141, 180]⟩ ⟨false, false, [5]⟩ ⟨true, false, [1, 2]⟩ = ⟨true, false, [1, 2, 1, 2, 1]⟩ := ⟨by kernel_rfl, by kernel_rfl⟩
theorem t_b : sdE ⟨#[226, 134, 145]⟩ ⟨false, false, [-3]⟩ ⟨true, false, [1, 2]⟩ = 0 ∧ sdA ⟨#[226, 134, 145]⟩ ⟨false, false, [-3]⟩ ⟨true, false, [1, 2]⟩ = ⟨true, false, [0, 1, 2]⟩ := ⟨by kernel_rfl, by kernel_rfl⟩
theorem t_c : sdE ⟨#[226, 140, 189]⟩ ⟨false, false, [1]⟩ ⟨true, true, [97, 98, 99]⟩ = 0 ∧ sdA ⟨#[226, 140, 189]⟩ ⟨false, false, [1]⟩ ⟨true, true, [97, 98, 99]⟩ = ⟨true, true, [98, 99, 97]⟩ := ⟨by kernel_rfl, by kernel_rfl⟩
theorem t_d : smE ⟨#[226, 141, 179]⟩ ⟨false, false, [201]⟩ = 113 ∧ smA ⟨#[226, 141, 179]⟩ ⟨false, false, [201]⟩ = ⟨false, false, []⟩ := ⟨by kernel_rfl, by kernel_rfl⟩
theorem t_e : (decide (whichS ⟨#[226, 134, 147]⟩ < 7)) = true := by kernel_rfl
set_option maxRecDepth 100000 in
set_option maxHeartbeats 8000000 in
theorem shown12_c (w : World) (hG : AG w) : Calls Tryz.prog 11 #[] w fun e w' => e = .returned (.bool true) ∧ Below w.heap.size w w' := by
  have HG := Lib.hid hG
  have HET : Hid (∀ W, Below w.heap.size w W → Nu.ErrT W) := Lib.hid (fun W h => (hG.below h).ng.2)
  have HB0 := Lib.hid (Below.refl w.heap.size w)
  clear hG
  go_enter Tryz.func11, Tryz.ntmps11
  have hc := lone_c 5 w
  have HC := Lib.hid hc
  clear hc
  go_wp2_with fail
  refine HC.out.mono ?_
  rintro e w1 ⟨va1, vn1, vc1, rfl, hk, hb⟩
  clear HC
  have HB_1 := Lib.hid (HB0.out.trans (hb.mono HB0.out.size))
  have HKN1 := Lib.hid hk
  clear hb hk
  obtain ⟨u2, hu2⟩ : ∃ u, u = w1.alloc (.cells #[.int .i64 1, .int .i64 2] 2) := ⟨_, rfl⟩
  have hbu : Below w1.heap.size w1 u2 := by rw [hu2]; exact (Below.refl _ _).alloc (Nat.le_refl _) _
  have HKN2 : Hid (KL u2 (.slice (some ⟨w1.heap.size, 0, none⟩) 2 2) [1, 2]) := Lib.hid (by rw [hu2]; exact kl_of_row (L := [1, 2]) (Row.new _ _ _) (by simp))
  have HK0_2 := Lib.hid (HKN1.out.below hbu)
  have HB_2 := Lib.hid (HB_1.out.trans (hbu.mono HB_1.out.size))
  have HU2 := Lib.hid hu2
  clear hbu hu2
  have hc := llist_c _ _ _ _ u2 HKN2.out
  rw [HU2.out] at hc
  have HC := Lib.hid hc
  clear hc
  go_wp2_with fail
  refine HC.out.mono ?_
  rintro e w3 ⟨rfl, hk, hb⟩
  clear HC
  rw [← HU2.out] at hb
  have HK0_3 := Lib.hid (HK0_2.out.below hb)
  have HK1_3 := Lib.hid (HKN2.out.below hb)
  have HB_3 := Lib.hid (HB_2.out.trans (hb.mono HB_2.out.size))
  clear hb hk
  have hc := sdy_c ⟨#[226, 141, 180]⟩ ⟨false, false, [5]⟩ ⟨true, false, [1, 2]⟩ (.slice va1 vn1 vc1) (.slice (some ⟨w1.heap.size, 0, none⟩) 2 2) w3 HK0_3.out HK1_3.out (in_l (by decide)) (in_l (by decide)) (HET.out _ HB_3.out)
  rw [t_a.1, t_a.2] at hc
  have HC := Lib.hid hc
  clear hc
  go_wp2_with fail
  refine HC.out.mono ?_
  rintro e w4 ⟨va4, vn4, vc4, rfl, hk, hb⟩
  clear HC
  have HK0_4 := Lib.hid (HK0_3.out.below hb)
  have HK1_4 := Lib.hid (HK1_3.out.below hb)
  have HB_4 := Lib.hid (HB_3.out.trans (hb.mono HB_3.out.size))
  have HKN4 := Lib.hid hk
  clear hb hk
  obtain ⟨u5, hu5⟩ : ∃ u, u = w4.alloc (.cells #[.bool true, .bool false, .slice va4 vn4 vc4] 24) := ⟨_, rfl⟩
  have hbu : Below w4.heap.size w4 u5 := by rw [hu5]; exact (Below.refl _ _).alloc (Nat.le_refl _) _
  have HRN5 : Hid (Row u5 w4.heap.size 24 #[.bool true, .bool false, .slice va4 vn4 vc4]) := Lib.hid (by rw [hu5]; exact Row.new _ _ _)
  have HK0_5 := Lib.hid (HKN4.out.below hbu)
  have HB_5 := Lib.hid (HB_4.out.trans (hbu.mono HB_4.out.size))
  have HU5 := Lib.hid hu5
  clear hbu hu5
  have hc := lone_c (-3) u5
  rw [HU5.out] at hc
  have HC := Lib.hid hc
  clear hc
  obtain ⟨p0a, p0b, p0c, -, -, -⟩ := srow3 HRN5.out
  rw [HU5.out] at p0a p0b p0c
  go_wp2_with fail
  refine HC.out.mono ?_
  rintro e w6 ⟨va6, vn6, vc6, rfl, hk, hb⟩
  clear HC
  clear p0a p0b p0c
  rw [← HU5.out] at hb
  have HR0_6 := Lib.hid (Row.below HRN5.out hb (Row.lt HRN5.out))
  have HK0_6 := Lib.hid (HK0_5.out.below hb)
  have HB_6 := Lib.hid (HB_5.out.trans (hb.mono HB_5.out.size))
  have HKN6 := Lib.hid hk
  clear hb hk
  obtain ⟨u7, hu7⟩ : ∃ u, u = w6.alloc (.cells #[.int .i64 1, .int .i64 2] 2) := ⟨_, rfl⟩
  have hbu : Below w6.heap.size w6 u7 := by rw [hu7]; exact (Below.refl _ _).alloc (Nat.le_refl _) _
  have HKN7 : Hid (KL u7 (.slice (some ⟨w6.heap.size, 0, none⟩) 2 2) [1, 2]) := Lib.hid (by rw [hu7]; exact kl_of_row (L := [1, 2]) (Row.new _ _ _) (by simp))
  have HR0_7 := Lib.hid (Row.below HR0_6.out hbu (Row.lt HR0_6.out))
  have HK0_7 := Lib.hid (HK0_6.out.below hbu)
  have HK1_7 := Lib.hid (HKN6.out.below hbu)
  have HB_7 := Lib.hid (HB_6.out.trans (hbu.mono HB_6.out.size))
  have HU7 := Lib.hid hu7
  clear hbu hu7
  have hc := llist_c _ _ _ _ u7 HKN7.out
  rw [HU7.out] at hc
  have HC := Lib.hid hc
  clear hc
  obtain ⟨p0a, p0b, p0c, -, -, -⟩ := srow3 HR0_7.out
  rw [HU7.out] at p0a p0b p0c
  go_wp2_with fail
  refine HC.out.mono ?_
  rintro e w8 ⟨rfl, hk, hb⟩
  clear HC
  clear p0a p0b p0c
  rw [← HU7.out] at hb
  have HR0_8 := Lib.hid (Row.below HR0_7.out hb (Row.lt HR0_7.out))
  have HK0_8 := Lib.hid (HK0_7.out.below hb)
  have HK1_8 := Lib.hid (HK1_7.out.below hb)
  have HK2_8 := Lib.hid (HKN7.out.below hb)
  have HB_8 := Lib.hid (HB_7.out.trans (hb.mono HB_7.out.size))
  clear hb hk
  have hc := sdy_c ⟨#[226, 134, 145]⟩ ⟨false, false, [(-3)]⟩ ⟨true, false, [1, 2]⟩ (.slice va6 vn6 vc6) (.slice (some ⟨w6.heap.size, 0, none⟩) 2 2) w8 HK1_8.out HK2_8.out (in_l (by decide)) (in_l (by decide)) (HET.out _ HB_8.out)
  rw [t_b.1, t_b.2] at hc
  have HC := Lib.hid hc
  clear hc
  go_wp2_with fail
  refine HC.out.mono ?_
  rintro e w9 ⟨va9, vn9, vc9, rfl, hk, hb⟩
  clear HC
  have HR0_9 := Lib.hid (Row.below HR0_8.out hb (Row.lt HR0_8.out))
  have HK0_9 := Lib.hid (HK0_8.out.below hb)
  have HK1_9 := Lib.hid (HK1_8.out.below hb)
  have HK2_9 := Lib.hid (HK2_8.out.below hb)
  have HB_9 := Lib.hid (HB_8.out.trans (hb.mono HB_8.out.size))
  have HKN9 := Lib.hid hk
  clear hb hk
  obtain ⟨u10, hu10⟩ : ∃ u, u = w9.alloc (.cells #[.bool true, .bool false, .slice va9 vn9 vc9] 24) := ⟨_, rfl⟩
  have hbu : Below w9.heap.size w9 u10 := by rw [hu10]; exact (Below.refl _ _).alloc (Nat.le_refl _) _
  have HRN10 : Hid (Row u10 w9.heap.size 24 #[.bool true, .bool false, .slice va9 vn9 vc9]) := Lib.hid (by rw [hu10]; exact Row.new _ _ _)
  have HR0_10 := Lib.hid (Row.below HR0_9.out hbu (Row.lt HR0_9.out))
  have HK0_10 := Lib.hid (HK0_9.out.below hbu)
  have HK1_10 := Lib.hid (HKN9.out.below hbu)
  have HB_10 := Lib.hid (HB_9.out.trans (hbu.mono HB_9.out.size))
  have HU10 := Lib.hid hu10
  clear hbu hu10
  have hc := lone_c 1 u10
  rw [HU10.out] at hc
  have HC := Lib.hid hc
  clear hc
  obtain ⟨p0a, p0b, p0c, -, -, -⟩ := srow3 HR0_10.out
  obtain ⟨p1a, p1b, p1c, -, -, -⟩ := srow3 HRN10.out
  rw [HU10.out] at p0a p0b p0c p1a p1b p1c
  go_wp2_with fail
  refine HC.out.mono ?_
  rintro e w11 ⟨va11, vn11, vc11, rfl, hk, hb⟩
  clear HC
  clear p0a p0b p0c p1a p1b p1c
  rw [← HU10.out] at hb
  have HR0_11 := Lib.hid (Row.below HR0_10.out hb (Row.lt HR0_10.out))
  have HR1_11 := Lib.hid (Row.below HRN10.out hb (Row.lt HRN10.out))
  have HK0_11 := Lib.hid (HK0_10.out.below hb)
  have HK1_11 := Lib.hid (HK1_10.out.below hb)
  have HB_11 := Lib.hid (HB_10.out.trans (hb.mono HB_10.out.size))
  have HKN11 := Lib.hid hk
  clear hb hk
  obtain ⟨u12, hu12⟩ : ∃ u, u = w11.alloc (.cells #[.int .i64 97, .int .i64 98, .int .i64 99] 2) := ⟨_, rfl⟩
  have hbu : Below w11.heap.size w11 u12 := by rw [hu12]; exact (Below.refl _ _).alloc (Nat.le_refl _) _
  have HKN12 : Hid (KL u12 (.slice (some ⟨w11.heap.size, 0, none⟩) 3 3) [97, 98, 99]) := Lib.hid (by rw [hu12]; exact kl_of_row (L := [97, 98, 99]) (Row.new _ _ _) (by simp))
  have HR0_12 := Lib.hid (Row.below HR0_11.out hbu (Row.lt HR0_11.out))
  have HR1_12 := Lib.hid (Row.below HR1_11.out hbu (Row.lt HR1_11.out))
  have HK0_12 := Lib.hid (HK0_11.out.below hbu)
  have HK1_12 := Lib.hid (HK1_11.out.below hbu)
  have HK2_12 := Lib.hid (HKN11.out.below hbu)
  have HB_12 := Lib.hid (HB_11.out.trans (hbu.mono HB_11.out.size))
  have HU12 := Lib.hid hu12
  clear hbu hu12
  have hc := sdy_c ⟨#[226, 140, 189]⟩ ⟨false, false, [1]⟩ ⟨true, true, [97, 98, 99]⟩ (.slice va11 vn11 vc11) (.slice (some ⟨w11.heap.size, 0, none⟩) 3 3) u12 HK2_12.out HKN12.out (in_l (by decide)) (in_l (by decide)) (HET.out _ HB_12.out)
  rw [t_c.1, t_c.2] at hc
  rw [HU12.out] at hc
  have HC := Lib.hid hc
  clear hc
  go_wp2_with fail
  refine HC.out.mono ?_
  rintro e w13 ⟨va13, vn13, vc13, rfl, hk, hb⟩
  clear HC
  rw [← HU12.out] at hb
  have HR0_13 := Lib.hid (Row.below HR0_12.out hb (Row.lt HR0_12.out))
  have HR1_13 := Lib.hid (Row.below HR1_12.out hb (Row.lt HR1_12.out))
  have HK0_13 := Lib.hid (HK0_12.out.below hb)
  have HK1_13 := Lib.hid (HK1_12.out.below hb)
  have HK2_13 := Lib.hid (HK2_12.out.below hb)
  have HK3_13 := Lib.hid (HKN12.out.below hb)
  have HB_13 := Lib.hid (HB_12.out.trans (hb.mono HB_12.out.size))
  have HKN13 := Lib.hid hk
  clear hb hk
  obtain ⟨u14, hu14⟩ : ∃ u, u = w13.alloc (.cells #[.bool true, .bool true, .slice va13 vn13 vc13] 24) := ⟨_, rfl⟩
  have hbu : Below w13.heap.size w13 u14 := by rw [hu14]; exact (Below.refl _ _).alloc (Nat.le_refl _) _
  have HRN14 : Hid (Row u14 w13.heap.size 24 #[.bool true, .bool true, .slice va13 vn13 vc13]) := Lib.hid (by rw [hu14]; exact Row.new _ _ _)
  have HR0_14 := Lib.hid (Row.below HR0_13.out hbu (Row.lt HR0_13.out))
  have HR1_14 := Lib.hid (Row.below HR1_13.out hbu (Row.lt HR1_13.out))
  have HK0_14 := Lib.hid (HK0_13.out.below hbu)
  have HK1_14 := Lib.hid (HK1_13.out.below hbu)
  have HK2_14 := Lib.hid (HKN13.out.below hbu)
  have HB_14 := Lib.hid (HB_13.out.trans (hbu.mono HB_13.out.size))
  have HU14 := Lib.hid hu14
  clear hbu hu14
  have hc := lone_c 201 u14
  rw [HU14.out] at hc
  have HC := Lib.hid hc
  clear hc
  obtain ⟨p0a, p0b, p0c, -, -, -⟩ := srow3 HR0_14.out
  obtain ⟨p1a, p1b, p1c, -, -, -⟩ := srow3 HR1_14.out
  obtain ⟨p2a, p2b, p2c, -, -, -⟩ := srow3 HRN14.out
  rw [HU14.out] at p0a p0b p0c p1a p1b p1c p2a p2b p2c
  go_wp2_with fail
  refine HC.out.mono ?_
  rintro e w15 ⟨va15, vn15, vc15, rfl, hk, hb⟩
  clear HC
  clear p0a p0b p0c p1a p1b p1c p2a p2b p2c
  rw [← HU14.out] at hb
  have HR0_15 := Lib.hid (Row.below HR0_14.out hb (Row.lt HR0_14.out))
  have HR1_15 := Lib.hid (Row.below HR1_14.out hb (Row.lt HR1_14.out))
  have HR2_15 := Lib.hid (Row.below HRN14.out hb (Row.lt HRN14.out))
  have HK0_15 := Lib.hid (HK0_14.out.below hb)
  have HK1_15 := Lib.hid (HK1_14.out.below hb)
  have HK2_15 := Lib.hid (HK2_14.out.below hb)
  have HB_15 := Lib.hid (HB_14.out.trans (hb.mono HB_14.out.size))
  have HKN15 := Lib.hid hk
  clear hb hk
  have hc := smon_c ⟨#[226, 141, 179]⟩ ⟨false, false, [201]⟩ (.slice va15 vn15 vc15) w15 HKN15.out (in_l (by decide)) (HET.out _ HB_15.out)
  rw [t_d.1, t_d.2] at hc
  have HC := Lib.hid hc
  clear hc
  go_wp2_with fail
  refine HC.out.mono ?_
  rintro e w16 ⟨va16, vn16, vc16, rfl, -, hb⟩
  clear HC
  have HR0_16 := Lib.hid (Row.below HR0_15.out hb (Row.lt HR0_15.out))
  have HR1_16 := Lib.hid (Row.below HR1_15.out hb (Row.lt HR1_15.out))
  have HR2_16 := Lib.hid (Row.below HR2_15.out hb (Row.lt HR2_15.out))
  have HK0_16 := Lib.hid (HK0_15.out.below hb)
  have HK1_16 := Lib.hid (HK1_15.out.below hb)
  have HK2_16 := Lib.hid (HK2_15.out.below hb)
  have HK3_16 := Lib.hid (HKN15.out.below hb)
  have HB_16 := Lib.hid (HB_15.out.trans (hb.mono HB_15.out.size))
  clear hb
  obtain ⟨u17, hu17⟩ : ∃ u, u = w16.alloc (.cells #[.bool false, .bool false, .slice va16 vn16 vc16] 24) := ⟨_, rfl⟩
  have hbu : Below w16.heap.size w16 u17 := by rw [hu17]; exact (Below.refl _ _).alloc (Nat.le_refl _) _
  have HRN17 : Hid (Row u17 w16.heap.size 24 #[.bool false, .bool false, .slice va16 vn16 vc16]) := Lib.hid (by rw [hu17]; exact Row.new _ _ _)
  have HR0_17 := Lib.hid (Row.below HR0_16.out hbu (Row.lt HR0_16.out))
  have HR1_17 := Lib.hid (Row.below HR1_16.out hbu (Row.lt HR1_16.out))
  have HR2_17 := Lib.hid (Row.below HR2_16.out hbu (Row.lt HR2_16.out))
  have HK0_17 := Lib.hid (HK0_16.out.below hbu)
  have HK1_17 := Lib.hid (HK1_16.out.below hbu)
  have HK2_17 := Lib.hid (HK2_16.out.below hbu)
  have HB_17 := Lib.hid (HB_16.out.trans (hbu.mono HB_16.out.size))
  have HU17 := Lib.hid hu17
  clear hbu hu17
  have hc := sprint_a (.slice va4 vn4 vc4) u17 HK0_17.out (HG.out.below HB_17.out)
  rw [HU17.out] at hc
  have HC := Lib.hid hc
  clear hc
  obtain ⟨p0a, p0b, p0c, -, -, -⟩ := srow3 HR0_17.out
  obtain ⟨p1a, p1b, p1c, -, -, -⟩ := srow3 HR1_17.out
  obtain ⟨p2a, p2b, p2c, -, -, -⟩ := srow3 HR2_17.out
  obtain ⟨p3a, p3b, p3c, -, -, -⟩ := srow3 HRN17.out
  rw [HU17.out] at p0a p0b p0c p1a p1b p1c p2a p2b p2c p3a p3b p3c
  go_wp2_with fail
  refine HC.out.mono ?_
  rintro e w18 ⟨rfl, hb⟩
  clear HC
  clear p0a p0b p0c p1a p1b p1c p2a p2b p2c p3a p3b p3c
  rw [← HU17.out] at hb
  have HR0_18 := Lib.hid (Row.below HR0_17.out hb (Row.lt HR0_17.out))
  have HR1_18 := Lib.hid (Row.below HR1_17.out hb (Row.lt HR1_17.out))
  have HR2_18 := Lib.hid (Row.below HR2_17.out hb (Row.lt HR2_17.out))
  have HR3_18 := Lib.hid (Row.below HRN17.out hb (Row.lt HRN17.out))
  have HK0_18 := Lib.hid (HK0_17.out.below hb)
  have HK1_18 := Lib.hid (HK1_17.out.below hb)
  have HK2_18 := Lib.hid (HK2_17.out.below hb)
  have HB_18 := Lib.hid (HB_17.out.trans (hb.mono HB_17.out.size))
  clear hb
  have hc := sprint_b (.slice va9 vn9 vc9) w18 HK1_18.out (HG.out.below HB_18.out)
  have HC := Lib.hid hc
  clear hc
  obtain ⟨p0a, p0b, p0c, -, -, -⟩ := srow3 HR0_18.out
  obtain ⟨p1a, p1b, p1c, -, -, -⟩ := srow3 HR1_18.out
  obtain ⟨p2a, p2b, p2c, -, -, -⟩ := srow3 HR2_18.out
  obtain ⟨p3a, p3b, p3c, -, -, -⟩ := srow3 HR3_18.out
  go_wp2_with fail
  refine HC.out.mono ?_
  rintro e w19 ⟨rfl, hb⟩
  clear HC
  clear p0a p0b p0c p1a p1b p1c p2a p2b p2c p3a p3b p3c
  have HR0_19 := Lib.hid (Row.below HR0_18.out hb (Row.lt HR0_18.out))
  have HR1_19 := Lib.hid (Row.below HR1_18.out hb (Row.lt HR1_18.out))
  have HR2_19 := Lib.hid (Row.below HR2_18.out hb (Row.lt HR2_18.out))
  have HR3_19 := Lib.hid (Row.below HR3_18.out hb (Row.lt HR3_18.out))
  have HK0_19 := Lib.hid (HK0_18.out.below hb)
  have HK1_19 := Lib.hid (HK1_18.out.below hb)
  have HK2_19 := Lib.hid (HK2_18.out.below hb)
  have HB_19 := Lib.hid (HB_18.out.trans (hb.mono HB_18.out.size))
  clear hb
  have hc := sprint_q (.slice va13 vn13 vc13) w19 HK2_19.out
  have HC := Lib.hid hc
  clear hc
  obtain ⟨p0a, p0b, p0c, -, -, -⟩ := srow3 HR0_19.out
  obtain ⟨p1a, p1b, p1c, -, -, -⟩ := srow3 HR1_19.out
  obtain ⟨p2a, p2b, p2c, -, -, -⟩ := srow3 HR2_19.out
  obtain ⟨p3a, p3b, p3c, -, -, -⟩ := srow3 HR3_19.out
  go_wp2_with fail
  refine HC.out.mono ?_
  rintro e w20 ⟨rfl, hb⟩
  clear HC
  clear p0a p0b p0c p1a p1b p1c p2a p2b p2c p3a p3b p3c
  have HR0_20 := Lib.hid (Row.below HR0_19.out hb (Row.lt HR0_19.out))
  have HR1_20 := Lib.hid (Row.below HR1_19.out hb (Row.lt HR1_19.out))
  have HR2_20 := Lib.hid (Row.below HR2_19.out hb (Row.lt HR2_19.out))
  have HR3_20 := Lib.hid (Row.below HR3_19.out hb (Row.lt HR3_19.out))
  have HK0_20 := Lib.hid (HK0_19.out.below hb)
  have HK1_20 := Lib.hid (HK1_19.out.below hb)
  have HK2_20 := Lib.hid (HK2_19.out.below hb)
  have HB_20 := Lib.hid (HB_19.out.trans (hb.mono HB_19.out.size))
  clear hb
  have hc := sisDy_c ⟨#[226, 134, 147]⟩ w20
  rw [t_e] at hc
  have HC := Lib.hid hc
  clear hc
  go_wp2_with fail
  refine HC.out.mono ?_
  rintro e w21 ⟨rfl, hb⟩
  have HR0_21 := Lib.hid (Row.below HR0_20.out hb (Row.lt HR0_20.out))
  have HR1_21 := Lib.hid (Row.below HR1_20.out hb (Row.lt HR1_20.out))
  have HR2_21 := Lib.hid (Row.below HR2_20.out hb (Row.lt HR2_20.out))
  have HR3_21 := Lib.hid (Row.below HR3_20.out hb (Row.lt HR3_20.out))
  have HK0_21 := Lib.hid (HK0_20.out.below hb)
  have HK1_21 := Lib.hid (HK1_20.out.below hb)
  have HK2_21 := Lib.hid (HK2_20.out.below hb)
  have HB_21 := Lib.hid (HB_20.out.trans (hb.mono HB_20.out.size))
  clear hb
  go_wp2_with (go_at_call 23; refine (fill_c _ _).mono ?_; rintro e w' ⟨rfl, rfl⟩)
  go_ret
  exact ⟨rfl, HB_21.out⟩
end Go.Proofs.YteclpoooggcdoaaGreatDoor.Ar
