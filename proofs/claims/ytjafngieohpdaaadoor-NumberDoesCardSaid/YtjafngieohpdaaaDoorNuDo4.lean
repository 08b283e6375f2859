/- The functions that stand in number's maps: what times y is 1; comparisons. -/
import Derived.Test.YtjafngieohpdaaaDoorNuDo3
namespace Go.Proofs.YtjafngieohpdaaaDoor.Nu
open Go Go.RowKit Go.Shelf
attribute [local go_sem] Oper.semAt_some

theorem fail_inv (a : Addr) (y : Int) (hy : In y) : FailV a (if (divR 1 y).2 = 101 then faultV 101 else .nilIface) (divR 1 y).2 ∧ okR (if (divR 1 y).2 = 101 then faultV 101 else .nilIface) (quoR 1 y) = (divR 1 y).1 := by
  have h := fail_div a 1 y (by decide) hy
  have e : failV ((1 : Int) != -9223372036854775808 || y != -1) = .nilIface := rfl
  rw [e] at h
  unfold okV2 okR2 at h
  by_cases hd : (divR 1 y).2 = 101
  · rw [if_pos hd] at h ⊢
    exact h
  · rw [if_neg hd] at h ⊢
    exact h
theorem pass_inv (y n : Int) (W : World) (b : Nat) (h0 : W.cell? ⟨b, 0, none⟩ = some (fnV 46)) (hl : b < W.heap.size) : Calls Tryd.prog 40 #[chkV 1 y, .int .i64 n, .slice (some ⟨b, 0, none⟩) 1 1] W fun e W' => e = .returned (.tuple #[.int .i64 (okR (if (divR 1 y).2 = 101 then faultV 101 else .nilIface) n), if (divR 1 y).2 = 101 then faultV 101 else .nilIface]) ∧ Below W.heap.size W W' := by
  refine pass_1 1 y n W b 46 _ h0 hl (chk_div W 1 y) ?_
  split
  · exact .inr ⟨_, _, rfl⟩
  · exact .inl rfl
set_option maxRecDepth 100000 in
set_option maxHeartbeats 2000000 in
theorem do_inv (a : Addr) (y : Int) (hy : In y) (w : World) : Calls Tryd.prog 44 #[chkV 0 y] w fun e w' => Out a (divR 1 y) w e w' := by
  have hb0 := (Below.refl w.heap.size w).alloc (Nat.le_refl _) (.cells #[.int .i64 1, .int .i64 y] 54)
  have HB := Lib.hid hb0.drew
  have c1 : (w.alloc (.cells #[.int .i64 1, .int .i64 y] 54)).cell? ⟨w.heap.size, 0, none⟩ = some (.int .i64 1) := by simp
  have c2 : (w.alloc (.cells #[.int .i64 1, .int .i64 y] 54)).cell? ⟨w.heap.size, 1, none⟩ = some (.int .i64 y) := by simp
  have HK : Hid (∀ W W2, W.heap.size ≥ w.heap.size + 1 → (W.cell? ⟨w.heap.size, 0, none⟩ = some (.int .i64 1) ∧ W.cell? ⟨w.heap.size, 1, none⟩ = some (.int .i64 y)) → Below W.heap.size W W2 → W2.cell? ⟨w.heap.size, 0, none⟩ = some (.int .i64 1) ∧ W2.cell? ⟨w.heap.size, 1, none⟩ = some (.int .i64 y)) := Lib.hid (fun W W2 hl hk h => ⟨(h.cell (p := ⟨w.heap.size, 0, none⟩) (by show w.heap.size < W.heap.size; omega)).trans hk.1, (h.cell (p := ⟨w.heap.size, 1, none⟩) (by show w.heap.size < W.heap.size; omega)).trans hk.2⟩)
  clear hb0
  have HP := Lib.hid (fun n W b h0 hl => pass_inv y n W b h0 hl)
  have HO := Lib.hid (fail_inv a y hy)
  obtain ⟨v, hv⟩ : ∃ v : Value, v = (if (divR 1 y).2 = 101 then faultV 101 else .nilIface) := ⟨_, rfl⟩
  rw [← hv] at HP HO
  obtain ⟨D, hD⟩ : ∃ D, D = divR 1 y := ⟨_, rfl⟩
  rw [← hD] at HO ⊢
  have HQ := Lib.hid (fun W => quotient_c 1 y W)
  obtain ⟨q, hq⟩ : ∃ q, q = quoR 1 y := ⟨_, rfl⟩
  rw [← hq] at HQ HO
  clear hv hD hq
  go_enter Tryd.func44, Tryd.ntmps44
  go_wp2_with fail
  go_region_held_law (fun w' => w'.cell? ⟨w.heap.size, 0, none⟩ = some (.int .i64 1) ∧ w'.cell? ⟨w.heap.size, 1, none⟩ = some (.int .i64 y)) (first | exact ⟨c1, c2⟩ | exact ⟨k0, k1⟩ | exact ⟨k2, k3⟩ | (constructor <;> simp [*] <;> done) | go_keep) (first | (go_at_call 45; refine (HQ.out _).mono ?_; rintro e w2 ⟨rfl, hb2⟩; have HB2 := Lib.hid hb2; obtain ⟨k0, k1⟩ := HK.out _ _ (by simp) (by simp) hb2; clear hb2) | (go_at_call 40; refine (HP.out _ _ _ (by first | simp | exact (HB2.out.cell (p := ⟨w.heap.size + 1, 0, none⟩) (by simp)).trans (by simp)) (by first | simp | (have h := HB2.out.size; simp at h; omega))).mono ?_; rintro e w3 ⟨rfl, hb3⟩; have HB3 := Lib.hid hb3; have hsz := HB2.out.size; simp at hsz; obtain ⟨k2, k3⟩ := HK.out _ _ (by first | exact hsz | (simp; omega) | omega) (by first | exact ⟨k0, k1⟩ | simp [*]) hb3; clear hb3 hsz))
  all_goals go_wp2
  all_goals go_ret2
  all_goals have hA : Below w.heap.size w w2 := by first | exact HB.out.trans (HB2.out.mono HB.out.size) | exact (HB.out.alloc HB.out.size _).trans (HB2.out.mono (HB.out.alloc HB.out.size _).size)
  all_goals have hC : Below w.heap.size w w3 := by first | exact hA.trans (HB3.out.mono hA.size) | exact (hA.alloc hA.size _).trans (HB3.out.mono (hA.alloc hA.size _).size)
  all_goals exact Out.mk HO.out.2 HO.out.1 hC
/-- A comparison's closure: its glyph lies in block b. -/
abbrev cmpV (b : Nat) : Value := .func (.func 75) #[] #[.pointer (some ⟨b, 0, none⟩)]
theorem compared_c (g : ByteArray) (w : World) : Calls Tryd.prog 62 #[.string g] w fun e w' => e = .returned (cmpV w.heap.size) ∧ w' = w.alloc (.cells #[.string g] 9) := by
  go_enter Tryd.func62, Tryd.ntmps62
  go_wp2
  go_ret
  exact ⟨rfl, rfl⟩
set_option maxRecDepth 100000 in
theorem do_cmp (a : Addr) (x y : Int) (g : ByteArray) (c : Bool) (b : Nat) (w : World) (hb : w.cell? ⟨b, 0, none⟩ = some (.string g)) (hbl : b < w.heap.size) (hH : ∀ W, Calls Tryd.prog 76 #[pairV x y, .string g] W fun e w' => e = .returned (.bool c) ∧ Below W.heap.size W w') : Calls Tryd.prog 75 #[chkV x y, .pointer (some ⟨b, 0, none⟩)] w fun e w' => Out a (bit c, 0) w e w' := by
  have hb0 := (Below.refl w.heap.size w).alloc (Nat.le_refl _) (.cells #[.int .i64 x, .int .i64 y] 54)
  have HB := Lib.hid hb0
  have c0 := (hb0.cell (p := ⟨b, 0, none⟩) hbl).trans hb
  have HH := Lib.hid hH
  have HP := Lib.hid (fun n W => pass_0 x y n W)
  have HK : Hid (∀ W, Below (w.alloc (.cells #[.int .i64 x, .int .i64 y] 54)).heap.size (w.alloc (.cells #[.int .i64 x, .int .i64 y] 54)) W → W.cell? ⟨w.heap.size, 0, none⟩ = some (.int .i64 x) ∧ W.cell? ⟨w.heap.size, 1, none⟩ = some (.int .i64 y)) := Lib.hid (fun W h => ⟨(h.cell (p := ⟨w.heap.size, 0, none⟩) (by simp)).trans (by simp), (h.cell (p := ⟨w.heap.size, 1, none⟩) (by simp)).trans (by simp)⟩)
  clear hb0 hb hH
  cases c
  · go_enter Tryd.func75, Tryd.ntmps75
    go_wp2_with (first | (go_at_call 76; refine (HH.out _).mono ?_; rintro e w2 ⟨rfl, hb2⟩; have HB2 := Lib.hid (HB.out.trans (hb2.mono HB.out.size)); obtain ⟨k0, k1⟩ := HK.out _ hb2; clear hb2) | (go_at_call 40; refine (HP.out _ _).mono ?_; rintro e w3 ⟨rfl, hb3⟩; have HB3 := Lib.hid (HB2.out.trans (hb3.mono HB2.out.size)); clear hb3))
    go_ret2
    exact Out.mk rfl (.inl ⟨rfl, rfl⟩) HB3.out
  · go_enter Tryd.func75, Tryd.ntmps75
    go_wp2_with (first | (go_at_call 76; refine (HH.out _).mono ?_; rintro e w2 ⟨rfl, hb2⟩; have HB2 := Lib.hid (HB.out.trans (hb2.mono HB.out.size)); obtain ⟨k0, k1⟩ := HK.out _ hb2; clear hb2) | (go_at_call 40; refine (HP.out _ _).mono ?_; rintro e w3 ⟨rfl, hb3⟩; have HB3 := Lib.hid (HB2.out.trans (hb3.mono HB2.out.size)); clear hb3))
    go_ret2
    exact Out.mk rfl (.inl ⟨rfl, rfl⟩) HB3.out
end Go.Proofs.YtjafngieohpdaaaDoor.Nu
