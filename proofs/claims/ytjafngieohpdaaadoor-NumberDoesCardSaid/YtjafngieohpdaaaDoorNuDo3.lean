/- The functions that stand in number's maps: those that call another one first. -/
import Derived.Test.YtjafngieohpdaaaDoorNuDo
import Derived.Test.YtjafngieohpdaaaDoorNuHolds
namespace Go.Proofs.YtjafngieohpdaaaDoor.Nu
open Go Go.RowKit Go.Shelf
attribute [local go_sem] Oper.semAt_some

def okV2 (v v2 : Value) : Value := if okV v then v2 else v
def okR2 (v v2 : Value) (n : Int) : Int := if okV v then okR v2 n else 0
theorem fail_div (a : Addr) (x y : Int) (hx : In x) (hy : In y) : FailV a (okV2 (if (divR x y).2 = 101 then faultV 101 else .nilIface) (failV (x != -9223372036854775808 || y != -1))) (divR x y).2 ∧ okR2 (if (divR x y).2 = 101 then faultV 101 else .nilIface) (failV (x != -9223372036854775808 || y != -1)) (quoR x y) = (divR x y).1 := by
  by_cases h0 : y = 0
  · subst h0
    by_cases h1 : x = 0
    · subst h1
      exact ⟨.inl ⟨rfl, rfl⟩, rfl⟩
    · have e : divR x 0 = (0, 101) := by simp [divR, h1]
      rw [e]
      exact ⟨.inr (.inr ⟨by decide, by decide, rfl⟩), rfl⟩
  · by_cases h1 : x.tmod y = 0
    · have e : divR x y = ovr (x.tdiv y) := by simp [divR, h0, h1]
      have hq : quoR x y = wrap64 (x.tdiv y) := by simp [quoR, h0]
      have hn : ¬ (ovr (x.tdiv y)).2 = 101 := by unfold ovr; split <;> simp
      have hb : (x != -9223372036854775808 || y != -1) = decide (In (x.tdiv y)) := by
        have h2 : (x.tdiv y).natAbs = x.natAbs / y.natAbs := Int.natAbs_tdiv x y
        by_cases hm : y = -1
        · subst hm
          have : x.tdiv (-1) = -x := by rw [Int.tdiv_neg, Int.tdiv_one]
          rw [this, Bool.eq_iff_iff]
          simp
          omega
        · by_cases hm1 : y = 1
          · subst hm1
            rw [Int.tdiv_one, Bool.eq_iff_iff]
            simp
            omega
          · have h3 : x.natAbs / y.natAbs ≤ x.natAbs / 2 := Nat.div_le_div_left (by omega) (by omega)
            rw [Bool.eq_iff_iff]
            simp [hm]
            omega
      rw [e, hq, if_neg hn, hb]
      exact fail_ovr a _ _ wrap_in
    · have e : divR x y = (0, 101) := by simp [divR, h0, h1]
      rw [e]
      exact ⟨.inr (.inr ⟨by decide, by decide, rfl⟩), rfl⟩
set_option maxRecDepth 100000 in
set_option maxHeartbeats 2000000 in
theorem do_res (a : Addr) (x y : Int) (hx : In x) (hy : In y) (w : World) : Calls Tryd.prog 60 #[chkV x y] w fun e w' => Out a (resR x y, 0) w e w' := by
  have hb0 := (Below.refl w.heap.size w).alloc (Nat.le_refl _) (.cells #[.int .i64 x, .int .i64 y] 54)
  have HB := Lib.hid hb0.drew
  have c1 : (w.alloc (.cells #[.int .i64 x, .int .i64 y] 54)).cell? ⟨w.heap.size, 0, none⟩ = some (.int .i64 x) := by simp
  have c2 : (w.alloc (.cells #[.int .i64 x, .int .i64 y] 54)).cell? ⟨w.heap.size, 1, none⟩ = some (.int .i64 y) := by simp
  have HK : Hid (∀ W W2, W.heap.size ≥ w.heap.size + 1 → (W.cell? ⟨w.heap.size, 0, none⟩ = some (.int .i64 x) ∧ W.cell? ⟨w.heap.size, 1, none⟩ = some (.int .i64 y)) → Below W.heap.size W W2 → W2.cell? ⟨w.heap.size, 0, none⟩ = some (.int .i64 x) ∧ W2.cell? ⟨w.heap.size, 1, none⟩ = some (.int .i64 y)) := Lib.hid (fun W W2 hl hk h => ⟨(h.cell (p := ⟨w.heap.size, 0, none⟩) (by show w.heap.size < W.heap.size; omega)).trans hk.1, (h.cell (p := ⟨w.heap.size, 1, none⟩) (by show w.heap.size < W.heap.size; omega)).trans hk.2⟩)
  clear hb0
  have HP := Lib.hid (fun n W => pass_0 x y n W)
  have HQ := Lib.hid (fun W => residue_c x y hx hy W)
  go_enter Tryd.func60, Tryd.ntmps60
  go_wp2_with fail
  go_region_held_law (fun w' => w'.cell? ⟨w.heap.size, 0, none⟩ = some (.int .i64 x) ∧ w'.cell? ⟨w.heap.size, 1, none⟩ = some (.int .i64 y)) (first | exact ⟨c1, c2⟩ | exact ⟨k0, k1⟩ | exact ⟨k2, k3⟩ | go_keep) (first | (go_at_call 61; refine (HQ.out _).mono ?_; rintro e w2 ⟨rfl, hb2⟩; have HB2 := Lib.hid hb2; obtain ⟨k0, k1⟩ := HK.out _ _ (by simp) (by simp) hb2; clear hb2) | (go_at_call 40; refine (HP.out _ _).mono ?_; rintro e w3 ⟨rfl, hb3⟩; have HB3 := Lib.hid hb3; have hsz := HB2.out.size; simp at hsz; obtain ⟨k2, k3⟩ := HK.out _ _ hsz ⟨k0, k1⟩ hb3; clear hb3 hsz))
  all_goals go_wp2
  all_goals go_ret2
  all_goals exact Out.mk rfl (.inl ⟨rfl, rfl⟩) (HB.out.trans ((HB2.out.trans (HB3.out.mono HB2.out.size)).mono HB.out.size))
set_option maxRecDepth 100000 in
set_option maxHeartbeats 2000000 in
theorem do_sign (a : Addr) (x y : Int)  (w : World) : Calls Tryd.prog 42 #[chkV x y] w fun e w' => Out a (y.sign, 0) w e w' := by
  have hb0 := (Below.refl w.heap.size w).alloc (Nat.le_refl _) (.cells #[.int .i64 x, .int .i64 y] 54)
  have HB := Lib.hid hb0.drew
  have c1 : (w.alloc (.cells #[.int .i64 x, .int .i64 y] 54)).cell? ⟨w.heap.size, 0, none⟩ = some (.int .i64 x) := by simp
  have c2 : (w.alloc (.cells #[.int .i64 x, .int .i64 y] 54)).cell? ⟨w.heap.size, 1, none⟩ = some (.int .i64 y) := by simp
  have HK : Hid (∀ W W2, W.heap.size ≥ w.heap.size + 1 → (W.cell? ⟨w.heap.size, 0, none⟩ = some (.int .i64 x) ∧ W.cell? ⟨w.heap.size, 1, none⟩ = some (.int .i64 y)) → Below W.heap.size W W2 → W2.cell? ⟨w.heap.size, 0, none⟩ = some (.int .i64 x) ∧ W2.cell? ⟨w.heap.size, 1, none⟩ = some (.int .i64 y)) := Lib.hid (fun W W2 hl hk h => ⟨(h.cell (p := ⟨w.heap.size, 0, none⟩) (by show w.heap.size < W.heap.size; omega)).trans hk.1, (h.cell (p := ⟨w.heap.size, 1, none⟩) (by show w.heap.size < W.heap.size; omega)).trans hk.2⟩)
  clear hb0
  have HP := Lib.hid (fun n W => pass_0 x y n W)
  have HQ := Lib.hid (fun W => sign_c x y W)
  go_enter Tryd.func42, Tryd.ntmps42
  go_wp2_with fail
  go_region_held_law (fun w' => w'.cell? ⟨w.heap.size, 0, none⟩ = some (.int .i64 x) ∧ w'.cell? ⟨w.heap.size, 1, none⟩ = some (.int .i64 y)) (first | exact ⟨c1, c2⟩ | exact ⟨k0, k1⟩ | exact ⟨k2, k3⟩ | go_keep) (first | (go_at_call 43; refine (HQ.out _).mono ?_; rintro e w2 ⟨rfl, hb2⟩; have HB2 := Lib.hid hb2; obtain ⟨k0, k1⟩ := HK.out _ _ (by simp) (by simp) hb2; clear hb2) | (go_at_call 40; refine (HP.out _ _).mono ?_; rintro e w3 ⟨rfl, hb3⟩; have HB3 := Lib.hid hb3; have hsz := HB2.out.size; simp at hsz; obtain ⟨k2, k3⟩ := HK.out _ _ hsz ⟨k0, k1⟩ hb3; clear hb3 hsz))
  all_goals go_wp2
  all_goals go_ret2
  all_goals exact Out.mk rfl (.inl ⟨rfl, rfl⟩) (HB.out.trans ((HB2.out.trans (HB3.out.mono HB2.out.size)).mono HB.out.size))
theorem pass_div (x y n : Int) (W : World) (b : Nat) (h0 : W.cell? ⟨b, 0, none⟩ = some (fnV 46)) (h1 : W.cell? ⟨b, 1, none⟩ = some (fnV 57)) (hl : b < W.heap.size) : Calls Tryd.prog 40 #[chkV x y, .int .i64 n, .slice (some ⟨b, 0, none⟩) 2 2] W fun e W' => e = .returned (.tuple #[.int .i64 (okR2 (if (divR x y).2 = 101 then faultV 101 else .nilIface) (failV (x != -9223372036854775808 || y != -1)) n), okV2 (if (divR x y).2 = 101 then faultV 101 else .nilIface) (failV (x != -9223372036854775808 || y != -1))]) ∧ Below W.heap.size W W' := by
  refine (pass_2 x y n W b 46 57 _ _ h0 h1 hl (chk_div W x y) (chk_quo W x y) ?_ (failV_form _)).mono ?_
  · split
    · exact .inr ⟨_, _, rfl⟩
    · exact .inl rfl
  · rintro e W' ⟨rfl, hb⟩
    refine ⟨?_, hb⟩
    unfold okR2 okV2
    split <;> rfl
set_option maxRecDepth 100000 in
set_option maxHeartbeats 2000000 in
theorem do_div (a : Addr) (x y : Int) (hx : In x) (hy : In y) (w : World) : Calls Tryd.prog 56 #[chkV x y] w fun e w' => Out a (divR x y) w e w' := by
  have hb0 := (Below.refl w.heap.size w).alloc (Nat.le_refl _) (.cells #[.int .i64 x, .int .i64 y] 54)
  have HB := Lib.hid hb0.drew
  have c1 : (w.alloc (.cells #[.int .i64 x, .int .i64 y] 54)).cell? ⟨w.heap.size, 0, none⟩ = some (.int .i64 x) := by simp
  have c2 : (w.alloc (.cells #[.int .i64 x, .int .i64 y] 54)).cell? ⟨w.heap.size, 1, none⟩ = some (.int .i64 y) := by simp
  have HK : Hid (∀ W W2, W.heap.size ≥ w.heap.size + 1 → (W.cell? ⟨w.heap.size, 0, none⟩ = some (.int .i64 x) ∧ W.cell? ⟨w.heap.size, 1, none⟩ = some (.int .i64 y)) → Below W.heap.size W W2 → W2.cell? ⟨w.heap.size, 0, none⟩ = some (.int .i64 x) ∧ W2.cell? ⟨w.heap.size, 1, none⟩ = some (.int .i64 y)) := Lib.hid (fun W W2 hl hk h => ⟨(h.cell (p := ⟨w.heap.size, 0, none⟩) (by show w.heap.size < W.heap.size; omega)).trans hk.1, (h.cell (p := ⟨w.heap.size, 1, none⟩) (by show w.heap.size < W.heap.size; omega)).trans hk.2⟩)
  clear hb0
  have HP := Lib.hid (fun n W b h0 h1 hl => pass_div x y n W b h0 h1 hl)
  have HO := Lib.hid (fail_div a x y hx hy)
  obtain ⟨v, hv⟩ : ∃ v : Value, v = (if (divR x y).2 = 101 then faultV 101 else .nilIface) := ⟨_, rfl⟩
  obtain ⟨v2, hv2⟩ : ∃ v, v = failV (x != -9223372036854775808 || y != -1) := ⟨_, rfl⟩
  rw [← hv, ← hv2] at HP HO
  obtain ⟨D, hD⟩ : ∃ D, D = divR x y := ⟨_, rfl⟩
  rw [← hD] at HO ⊢
  have HQ := Lib.hid (fun W => quotient_c x y W)
  obtain ⟨q, hq⟩ : ∃ q, q = quoR x y := ⟨_, rfl⟩
  rw [← hq] at HQ HO
  clear hv hv2 hD hq
  go_enter Tryd.func56, Tryd.ntmps56
  go_wp2_with fail
  go_region_held_law (fun w' => w'.cell? ⟨w.heap.size, 0, none⟩ = some (.int .i64 x) ∧ w'.cell? ⟨w.heap.size, 1, none⟩ = some (.int .i64 y)) (first | exact ⟨c1, c2⟩ | exact ⟨k0, k1⟩ | exact ⟨k2, k3⟩ | (constructor <;> simp [*] <;> done) | go_keep) (first | (go_at_call 45; refine (HQ.out _).mono ?_; rintro e w2 ⟨rfl, hb2⟩; have HB2 := Lib.hid hb2; obtain ⟨k0, k1⟩ := HK.out _ _ (by simp) (by simp) hb2; clear hb2) | (go_at_call 40; refine (HP.out _ _ _ (by first | simp | exact (HB2.out.cell (p := ⟨w.heap.size + 1, 0, none⟩) (by simp)).trans (by simp)) (by first | simp | exact (HB2.out.cell (p := ⟨w.heap.size + 1, 1, none⟩) (by simp)).trans (by simp)) (by first | simp | (have h := HB2.out.size; simp at h; omega))).mono ?_; rintro e w3 ⟨rfl, hb3⟩; have HB3 := Lib.hid hb3; have hsz := HB2.out.size; simp at hsz; obtain ⟨k2, k3⟩ := HK.out _ _ (by first | exact hsz | (simp; omega) | omega) (by first | exact ⟨k0, k1⟩ | simp [*]) hb3; clear hb3 hsz))
  all_goals go_wp2
  all_goals go_ret2
  all_goals have hA : Below w.heap.size w w2 := by first | exact HB.out.trans (HB2.out.mono HB.out.size) | exact (HB.out.alloc HB.out.size _).trans (HB2.out.mono (HB.out.alloc HB.out.size _).size)
  all_goals have hC : Below w.heap.size w w3 := by first | exact hA.trans (HB3.out.mono hA.size) | exact (hA.alloc hA.size _).trans (HB3.out.mono (hA.alloc hA.size _).size)
  all_goals exact Out.mk HO.out.2 HO.out.1 hC
end Go.Proofs.YtjafngieohpdaaaDoor.Nu
