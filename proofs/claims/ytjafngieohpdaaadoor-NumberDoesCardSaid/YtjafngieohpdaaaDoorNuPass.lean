/- number's checker: pass, by no check, one, two. -/
import Derived.Test.YtjafngieohpdaaaDoorNuMath
import Derived.Shelf.AbstractIn
namespace Go.Proofs.YtjafngieohpdaaaDoor.Nu
open Go Go.RowKit Go.Shelf
attribute [local go_sem] Oper.semAt_some

/-- A pair of numbers. -/
abbrev pairV (x y : Int) : Value := .agg #[.int .i64 x, .int .i64 y]
/-- A checker of two numbers; a function's value. -/
abbrev chkV (x y : Int) : Value := .agg #[.int .i64 x, .int .i64 y]
/-- Nothing is wrong. -/
def okV : Value → Bool
  | .nilIface => true
  | _ => false
abbrev fnV (k : Nat) : Value := .func (.func k) #[] #[]
/-- The number, if nothing is wrong. -/
def okR (v : Value) (n : Int) : Int := if okV v then n else 0
/-- A check that may be called, and what it tells of x and y. -/
structure Chk (W : World) (x y : Int) (k : Nat) (v : Value) : Prop where
  enters : ∀ args w, (callFunc k args).run Tryd.prog w = .ok (.enter k args) w
  call : ∀ W', Below W.heap.size W W' → Calls Tryd.prog k #[pairV x y] W' fun e W2 => e = .returned v ∧ Below W'.heap.size W' W2
set_option maxRecDepth 100000 in
theorem pass_0 (x y n : Int) (w : World) : Calls Tryd.prog 40 #[chkV x y, .int .i64 n, .slice none 0 0] w fun e w' => e = .returned (.tuple #[.int .i64 n, .nilIface]) ∧ Below w.heap.size w w' := by
  have HB := Lib.hid ((Below.refl w.heap.size w).alloc (Nat.le_refl _) (.cells #[.int .i64 x, .int .i64 y] 54))
  go_enter Tryd.func40, Tryd.ntmps40
  go_wp2
  refine wp_loop_rounds 1 ?_
  rw [rounds_succ]
  go_wp2
  go_ret2
  exact ⟨rfl, HB.out⟩
set_option maxRecDepth 100000 in
theorem pass_1 (x y n : Int) (w : World) (b k : Nat) (v : Value) (hb : w.cell? ⟨b, 0, none⟩ = some (fnV k)) (hbl : b < w.heap.size) (hC : Chk w x y k v) (hv : v = .nilIface ∨ ∃ t z, v = .iface t z) : Calls Tryd.prog 40 #[chkV x y, .int .i64 n, .slice (some ⟨b, 0, none⟩) 1 1] w fun e w' => e = .returned (.tuple #[.int .i64 (okR v n), v]) ∧ Below w.heap.size w w' := by
  have hb0 := (Below.refl w.heap.size w).alloc (Nat.le_refl _) (.cells #[.int .i64 x, .int .i64 y] 54)
  have HB := Lib.hid hb0
  have eo := hC.enters
  have HC := Lib.hid (hC.call _ hb0)
  have hc := (hb0.cell (p := ⟨b, 0, none⟩) hbl).trans hb
  have c1 : (w.alloc (.cells #[.int .i64 x, .int .i64 y] 54)).cell? ⟨w.heap.size, 0, none⟩ = some (.int .i64 x) := by simp
  have c2 : (w.alloc (.cells #[.int .i64 x, .int .i64 y] 54)).cell? ⟨w.heap.size, 1, none⟩ = some (.int .i64 y) := by simp
  clear hb0 hC hb
  rcases hv with rfl | ⟨t, z, rfl⟩
  · go_enter Tryd.func40, Tryd.ntmps40
    go_wp2
    refine wp_loop_rounds 2 ?_
    rw [rounds_succ]
    go_wp2_with (go_at_fn k; refine HC.out.mono ?_; rintro e w2 ⟨rfl, hb2⟩; have HB2 := Lib.hid hb2; clear hb2)
    rw [rounds_succ]
    go_wp2
    go_ret2
    exact ⟨rfl, HB.out.trans (HB2.out.mono (by simp))⟩
  · go_enter Tryd.func40, Tryd.ntmps40
    go_wp2
    refine wp_loop_rounds 2 ?_
    rw [rounds_succ]
    go_wp2_with (go_at_fn k; refine HC.out.mono ?_; rintro e w2 ⟨rfl, hb2⟩; have HB2 := Lib.hid hb2; clear hb2)
    go_ret2
    exact ⟨rfl, HB.out.trans (HB2.out.mono (by simp))⟩
theorem Chk.mono {W W' : World} {x y : Int} {k : Nat} {v : Value} (h : Chk W x y k v) (hb : Below W.heap.size W W') : Chk W' x y k v := ⟨h.enters, fun W2 h2 => h.call W2 (hb.trans (h2.mono hb.size))⟩
set_option maxRecDepth 100000 in
theorem pass_2 (x y n : Int) (w : World) (b k k2 : Nat) (v v2 : Value) (hb : w.cell? ⟨b, 0, none⟩ = some (fnV k)) (hb2 : w.cell? ⟨b, 1, none⟩ = some (fnV k2)) (hbl : b < w.heap.size) (hC : Chk w x y k v) (hC2 : Chk w x y k2 v2) (hv : v = .nilIface ∨ ∃ t z, v = .iface t z) (hv2 : v2 = .nilIface ∨ ∃ t z, v2 = .iface t z) : Calls Tryd.prog 40 #[chkV x y, .int .i64 n, .slice (some ⟨b, 0, none⟩) 2 2] w fun e w' => e = .returned (if okV v then .tuple #[.int .i64 (okR v2 n), v2] else .tuple #[.int .i64 0, v]) ∧ Below w.heap.size w w' := by
  have hb0 := (Below.refl w.heap.size w).alloc (Nat.le_refl _) (.cells #[.int .i64 x, .int .i64 y] 54)
  have HB := Lib.hid hb0
  have eo := hC.enters
  have eo2 := hC2.enters
  have HC := Lib.hid (hC.call _ hb0)
  have HC2 := Lib.hid (hC2.mono hb0).call
  have c1 : (w.alloc (.cells #[.int .i64 x, .int .i64 y] 54)).cell? ⟨w.heap.size, 0, none⟩ = some (.int .i64 x) := by simp
  have c2 : (w.alloc (.cells #[.int .i64 x, .int .i64 y] 54)).cell? ⟨w.heap.size, 1, none⟩ = some (.int .i64 y) := by simp
  have hlt : b < (w.alloc (.cells #[.int .i64 x, .int .i64 y] 54)).heap.size := Nat.lt_of_lt_of_le hbl hb0.size
  have hc := (hb0.cell (p := ⟨b, 0, none⟩) hbl).trans hb
  have hc2 := (hb0.cell (p := ⟨b, 1, none⟩) hbl).trans hb2
  obtain ⟨W, hW⟩ : ∃ W, W = w.alloc (.cells #[.int .i64 x, .int .i64 y] 54) := ⟨_, rfl⟩
  have HCELL : Hid (∀ W2, Below W.heap.size W W2 → W2.cell? ⟨b, 1, none⟩ = some (fnV k2) ∧ W2.cell? ⟨w.heap.size, 0, none⟩ = some (.int .i64 x) ∧ W2.cell? ⟨w.heap.size, 1, none⟩ = some (.int .i64 y)) := Lib.hid (fun W2 h => by
    have hl : w.heap.size < W.heap.size := by rw [hW]; simp
    rw [← hW] at hc2 c1 c2 hlt
    exact ⟨(h.cell (p := ⟨b, 1, none⟩) hlt).trans hc2, (h.cell (p := ⟨w.heap.size, 0, none⟩) hl).trans c1, (h.cell (p := ⟨w.heap.size, 1, none⟩) hl).trans c2⟩)
  rw [hW] at HCELL
  clear hb0 hC hC2 hb hb2 hc2 hW W
  rcases hv with rfl | ⟨t, z, rfl⟩
  · rcases hv2 with rfl | ⟨t, z, rfl⟩
    · go_enter Tryd.func40, Tryd.ntmps40
      go_wp2
      refine wp_loop_rounds 3 ?_
      rw [rounds_succ]
      go_wp2_with (go_at_fn k; refine HC.out.mono ?_; rintro e w2 ⟨rfl, hb2⟩; have HB2 := Lib.hid hb2; obtain ⟨d0, d1, d2⟩ := HCELL.out _ hb2; clear hb2)
      rw [rounds_succ]
      go_wp2_with (go_at_fn k2; refine (HC2.out _ HB2.out).mono ?_; rintro e w3 ⟨rfl, hb3⟩; have HB3 := Lib.hid (HB2.out.trans (hb3.mono HB2.out.size)); clear hb3)
      rw [rounds_succ]
      go_wp2
      go_ret2
      exact ⟨rfl, HB.out.trans (HB3.out.mono (by simp))⟩
    · go_enter Tryd.func40, Tryd.ntmps40
      go_wp2
      refine wp_loop_rounds 3 ?_
      rw [rounds_succ]
      go_wp2_with (go_at_fn k; refine HC.out.mono ?_; rintro e w2 ⟨rfl, hb2⟩; have HB2 := Lib.hid hb2; obtain ⟨d0, d1, d2⟩ := HCELL.out _ hb2; clear hb2)
      rw [rounds_succ]
      go_wp2_with (go_at_fn k2; refine (HC2.out _ HB2.out).mono ?_; rintro e w3 ⟨rfl, hb3⟩; have HB3 := Lib.hid (HB2.out.trans (hb3.mono HB2.out.size)); clear hb3)
      go_ret2
      exact ⟨rfl, HB.out.trans (HB3.out.mono (by simp))⟩
  · go_enter Tryd.func40, Tryd.ntmps40
    go_wp2
    refine wp_loop_rounds 2 ?_
    rw [rounds_succ]
    go_wp2_with (go_at_fn k; refine HC.out.mono ?_; rintro e w2 ⟨rfl, hb2⟩; have HB2 := Lib.hid hb2; clear hb2)
    go_ret2
    exact ⟨rfl, HB.out.trans (HB2.out.mono (by simp))⟩
end Go.Proofs.YtjafngieohpdaaaDoor.Nu
