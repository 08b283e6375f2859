/- Number's calls (by wip/gen/mknudy.py). -/
import Derived.Test.YtjafngieohpdaaaDoorNuWhich
namespace Go.Proofs.YtjafngieohpdaaaDoor.Nu
open Go Go.RowKit Go.Shelf
attribute [local go_sem] Oper.semAt_some

/-- What apply answers. -/
def Told (a : Addr) (N : Int × Int) (w : World) (e : Ending) (w' : World) : Prop := ∃ v, e = .returned (.tuple #[.int .i64 N.1, v]) ∧ ErrV a v N.2 ∧ Below w.heap.size w w'
theorem ErrV.of {a : Addr} {v : Value} {c : Int} (h : FailV a v c) (g : ByteArray) : (v = .nilIface ∧ ErrV a .nilIface c) ∨ (∃ t z, v = .iface t z ∧ ErrV a (wrongV g (.iface t z)) c) := by
  rcases h with ⟨rfl, rfl⟩ | ⟨rfl, rfl⟩ | ⟨h1, h2, rfl⟩
  · exact .inl ⟨rfl, .inl ⟨rfl, rfl⟩⟩
  · exact .inr ⟨_, _, rfl, .inr ⟨g, .inl ⟨rfl, rfl⟩⟩⟩
  · exact .inr ⟨_, _, rfl, .inr ⟨g, .inr ⟨h1, h2, rfl⟩⟩⟩
set_option maxRecDepth 100000 in
set_option maxHeartbeats 2000000 in
theorem apply_c (a : Addr) (F : Nat) (eF : ∀ args w, (callFunc F args).run Tryd.prog w = .ok (.enter F args) w) (g : ByteArray) (ok : Bool) (X : Int → Prop) (N : Int → Int → Int × Int) (x y : Int) (w : World) (hE : ES w a) (hx : X x) (hy : In y) (hF : ∀ W, Calls Tryd.prog F #[.string g] W fun e w' => Found a ok X N W e w') : Calls Tryd.prog 21 #[fnV F, .string g, pairV x y] w fun e w' => Told a (if ok then N x y else (0, 102)) w e w' := by
  have hb0 := (Below.refl w.heap.size w).alloc (Nat.le_refl _) (.cells #[.int .i64 x, .int .i64 y] 41)
  have HB := Lib.hid hb0
  have HF := Lib.hid (hF (w.alloc (.cells #[.int .i64 x, .int .i64 y] 41)))
  have HE := Lib.hid (hE.below hb0)
  have HCE : Hid (∀ W, Below (w.alloc (.cells #[.int .i64 x, .int .i64 y] 41)).heap.size (w.alloc (.cells #[.int .i64 x, .int .i64 y] 41)) W → W.cell? ⟨w.heap.size, 0, none⟩ = some (.int .i64 x) ∧ W.cell? ⟨w.heap.size, 1, none⟩ = some (.int .i64 y)) := Lib.hid (fun W h => ⟨(h.cell (p := ⟨w.heap.size, 0, none⟩) (by simp)).trans (by simp), (h.cell (p := ⟨w.heap.size, 1, none⟩) (by simp)).trans (by simp)⟩)
  clear hb0 hF hE
  cases ok
  · simp only [Bool.false_eq_true, if_false]
    go_enter Tryd.func21, Tryd.ntmps21
    go_wp2_with fail
    go_at_fn F
    refine HF.out.mono ?_
    rintro e w1 ⟨fv, rfl, -, hb1⟩
    have HB1 := Lib.hid (HB.out.trans (hb1.mono HB.out.size))
    have hE1 := HE.out.below hb1
    have e1 := hE1.1
    have e2 := hE1.2
    clear hE1 hb1
    go_wp2_with fail
    go_region_held_law (fun w' => w'.cell? ⟨0, 0, none⟩ = some (errV a)) (go_keep) (fail)
    all_goals go_wp2
    all_goals go_ret2
    all_goals exact ⟨_, rfl, .inr ⟨g, .inl ⟨rfl, rfl⟩⟩, HB1.out.drew⟩
  · simp only [if_true]
    have HX := Lib.hid (And.intro hx hy)
    clear hx hy
    obtain ⟨M, hM⟩ : ∃ M, M = N x y := ⟨_, rfl⟩
    have HM := Lib.hid hM
    rw [← hM]
    clear hM
    go_enter Tryd.func21, Tryd.ntmps21
    go_wp2_with fail
    go_at_fn F
    refine HF.out.mono ?_
    rintro e w1 ⟨fv, rfl, hd, hb1⟩
    have HB1 := Lib.hid (HB.out.trans (hb1.mono HB.out.size))
    have HE1 := Lib.hid (HE.out.below hb1)
    obtain ⟨k0, k1⟩ := HCE.out w1 hb1
    obtain ⟨f, cap, rfl, hcap, ef, hc⟩ := hd rfl
    have hc1 := hc x y w1 (Below.refl _ _) HE1.out HX.out.1 HX.out.2
    rw [← HM.out] at hc1
    clear hd hb1 hc
    rcases hcap with rfl | ⟨p, rfl⟩
    · have HC : Hid (Calls Tryd.prog f #[chkV x y] w1 fun e w' => Out a M w1 e w') := Lib.hid hc1
      clear hc1
      go_wp2_with fail
      go_at_fn f
      refine HC.out.mono ?_
      rintro e w2 ⟨v, rfl, hv, hb2⟩
      have HB2 := Lib.hid (HB1.out.trans (hb2.mono HB1.out.size))
      clear hb2
      rcases ErrV.of hv g with ⟨rfl, h⟩ | ⟨t, z, rfl, h⟩
      · have HV := Lib.hid h
        clear hv h
        go_wp2
        go_ret2
        exact ⟨_, rfl, HV.out, HB2.out⟩
      · have HV := Lib.hid h
        clear hv h
        go_wp2
        go_ret2
        exact ⟨_, rfl, HV.out, HB2.out⟩
    · have HC : Hid (Calls Tryd.prog f #[chkV x y, .pointer (some p)] w1 fun e w' => Out a M w1 e w') := Lib.hid hc1
      clear hc1
      go_wp2_with fail
      go_at_fn f
      refine HC.out.mono ?_
      rintro e w2 ⟨v, rfl, hv, hb2⟩
      have HB2 := Lib.hid (HB1.out.trans (hb2.mono HB1.out.size))
      clear hb2
      rcases ErrV.of hv g with ⟨rfl, h⟩ | ⟨t, z, rfl, h⟩
      · have HV := Lib.hid h
        clear hv h
        go_wp2
        go_ret2
        exact ⟨_, rfl, HV.out, HB2.out⟩
      · have HV := Lib.hid h
        clear hv h
        go_wp2
        go_ret2
        exact ⟨_, rfl, HV.out, HB2.out⟩
end Go.Proofs.YtjafngieohpdaaaDoor.Nu
