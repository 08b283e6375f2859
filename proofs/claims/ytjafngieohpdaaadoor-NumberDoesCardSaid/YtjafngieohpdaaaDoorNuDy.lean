/- Number's exported calls (by wip/gen/mknucall.py). -/
import Derived.Test.YtjafngieohpdaaaDoorNuApply
namespace Go.Proofs.YtjafngieohpdaaaDoor.Nu
open Go Go.RowKit Go.Shelf
attribute [local go_sem] Oper.semAt_some

/-- The ground: number's sentinel, and the type of errors, lie. -/
def NG (w : World) : Prop := (∃ a, ES w a) ∧ ErrT w
theorem NG.below {w w' : World} (h : NG w) (hb : Below w.heap.size w w') : NG w' := ⟨h.1.imp fun _ he => he.below hb, h.2.below hb h.2.2⟩
/-- The pair that a call answers. -/
abbrev numV (N : Int × Int) : Value := .tuple #[.int .i64 N.1, .int .i64 N.2]
theorem dyN_no (x y : Int) : dyN 15 x y = (0, 102) := rfl
theorem whichG_le (G : Nat → ByteArray) (g : ByteArray) : ∀ n i, whichG G g n i ≤ i + n
  | 0, _ => Nat.le_refl _
  | n + 1, i => by
    simp only [whichG]
    split
    · omega
    · have := whichG_le G g n (i + 1)
      omega
theorem dy_find (g : ByteArray) (x y : Int) : (if decide (whichD g < 15) then dyN (whichD g) x y else (0, 102)) = dyN (whichD g) x y := by
  by_cases h : whichD g < 15
  · rw [decide_eq_true h]; rfl
  · have := whichG_le dyG g 15 0
    have h2 : whichD g = 15 := by unfold whichD at h ⊢; omega
    rw [h2]
    rfl
theorem mon_find (g : ByteArray) (y : Int) : (if decide (whichM g < 8) then monN (whichM g) y else (0, 102)) = monN (whichM g) y := by
  by_cases h : whichM g < 8
  · rw [decide_eq_true h]; rfl
  · have := whichG_le monG g 8 0
    have h2 : whichM g = 8 := by unfold whichM at h ⊢; omega
    rw [h2]
    rfl
set_option maxRecDepth 100000 in
theorem dy_c (g : ByteArray) (x y : Int) (hx : In x) (hy : In y) (w : World) (hG : NG w) : Calls Tryd.prog 11 #[.string g, .int .i64 x, .int .i64 y] w fun e w' => e = .returned (numV (dyN (whichD g) x y)) ∧ Below w.heap.size w w' := by
  obtain ⟨⟨a, hE⟩, hT⟩ := hG
  have ha := apply_c a 22 (fun args w => enters_of Tryd.func22 (by kernel_rfl) rfl args w) g (decide (whichD g < 15)) In (dyN (whichD g)) x y w hE hx hy (fun W => find2_c a g W)
  rw [dy_find] at ha
  have HA := Lib.hid ha
  have HE := Lib.hid (And.intro hE hT)
  obtain ⟨N, hN⟩ : ∃ N, N = dyN (whichD g) x y := ⟨_, rfl⟩
  rw [← hN] at HA ⊢
  clear hN ha hE hT
  go_enter Tryd.func11, Tryd.ntmps11
  go_wp2_with fail
  refine HA.out.mono ?_
  rintro e w1 ⟨v, rfl, hv, hb1⟩
  have HC := Lib.hid (told_c a v N.2 w1 (HE.out.1.below hb1) (HE.out.2.below hb1 HE.out.2.2) hv)
  have HB1 := Lib.hid hb1
  clear hb1 hv
  go_wp2_with fail
  refine HC.out.mono ?_
  rintro e w2 ⟨rfl, hb2⟩
  have HB2 := Lib.hid hb2
  clear hb2
  go_wp2
  go_ret2
  exact ⟨rfl, HB1.out.trans (HB2.out.mono HB1.out.size)⟩
set_option maxRecDepth 100000 in
theorem mon_c (g : ByteArray) (y : Int) (hy : In y) (w : World) (hG : NG w) : Calls Tryd.prog 13 #[.string g, .int .i64 y] w fun e w' => e = .returned (numV (monN (whichM g) y)) ∧ Below w.heap.size w w' := by
  obtain ⟨⟨a, hE⟩, hT⟩ := hG
  have ha := apply_c a 30 (fun args w => enters_of Tryd.func30 (by kernel_rfl) rfl args w) g (decide (whichM g < 8)) (fun x => x = 0) (fun _ y => monN (whichM g) y) 0 y w hE rfl hy (fun W => find1_c a g W)
  rw [mon_find] at ha
  have HA := Lib.hid ha
  have HE := Lib.hid (And.intro hE hT)
  obtain ⟨N, hN⟩ : ∃ N, N = monN (whichM g) y := ⟨_, rfl⟩
  rw [← hN] at HA ⊢
  clear hN ha hE hT
  go_enter Tryd.func13, Tryd.ntmps13
  go_wp2_with fail
  refine HA.out.mono ?_
  rintro e w1 ⟨v, rfl, hv, hb1⟩
  have HC := Lib.hid (told_c a v N.2 w1 (HE.out.1.below hb1) (HE.out.2.below hb1 HE.out.2.2) hv)
  have HB1 := Lib.hid hb1
  clear hb1 hv
  go_wp2_with fail
  refine HC.out.mono ?_
  rintro e w2 ⟨rfl, hb2⟩
  have HB2 := Lib.hid hb2
  clear hb2
  go_wp2
  go_ret2
  exact ⟨rfl, HB1.out.trans (HB2.out.mono HB1.out.size)⟩
set_option maxRecDepth 100000 in
theorem isDy_c (g : ByteArray) (w : World) : Calls Tryd.prog 17 #[.string g] w fun e w' => e = .returned (.bool (decide (whichD g < 15))) ∧ Below w.heap.size w w' := by
  have HF := Lib.hid (fun W => find2_c ⟨0, 0, none⟩ g W)
  obtain ⟨ok, hok⟩ : ∃ ok, ok = decide (whichD g < 15) := ⟨_, rfl⟩
  rw [← hok] at HF ⊢
  clear hok
  go_enter Tryd.func17, Tryd.ntmps17
  go_wp2_with fail
  refine (HF.out _).mono ?_
  rintro e w1 ⟨fv, rfl, -, hb1⟩
  have HB1 := Lib.hid hb1
  clear hb1
  go_wp2
  go_ret
  exact ⟨rfl, HB1.out⟩
set_option maxRecDepth 100000 in
theorem isMon_c (g : ByteArray) (w : World) : Calls Tryd.prog 19 #[.string g] w fun e w' => e = .returned (.bool (decide (whichM g < 8))) ∧ Below w.heap.size w w' := by
  have HF := Lib.hid (fun W => find1_c ⟨0, 0, none⟩ g W)
  obtain ⟨ok, hok⟩ : ∃ ok, ok = decide (whichM g < 8) := ⟨_, rfl⟩
  rw [← hok] at HF ⊢
  clear hok
  go_enter Tryd.func19, Tryd.ntmps19
  go_wp2_with fail
  refine (HF.out _).mono ?_
  rintro e w1 ⟨fv, rfl, -, hb1⟩
  have HB1 := Lib.hid hb1
  clear hb1
  go_wp2
  go_ret
  exact ⟨rfl, HB1.out⟩
theorem which_is (G : Nat → ByteArray) (g : ByteArray) : ∀ n i k, whichG G g n i = k → k < i + n → g = G k
  | 0, i, k, h, hk => by simp only [whichG] at h; omega
  | n + 1, i, k, h, hk => by
    simp only [whichG] at h
    split at h
    · rename_i e
      rw [← h]
      exact e
    · exact which_is G g n (i + 1) k h (by omega)
/-- What changes nothing. -/
def unitN (k : Nat) : Int × Bool := match k with
  | 0 => (0, true)
  | 2 => (1, true)
  | 13 => (1, true)
  | 14 => (0, true)
  | _ => (0, false)
theorem str_eq {g : ByteArray} {l : List UInt8} (h : g = ⟨l.toArray⟩) : (g.toList == l) = true := by subst h; simp [ByteArray.toList_eq]
theorem str_ne {g : ByteArray} {l : List UInt8} (h : g ≠ ⟨l.toArray⟩) : (g.toList == l) = false := by
  rw [ByteArray.toList_eq, Bool.eq_false_iff]
  intro e
  have e := eq_of_beq e
  exact h (by cases g; simp at e; simp [← e])
set_option maxRecDepth 100000 in
theorem unit_c (g : ByteArray) (w : World) : Calls Tryd.prog 15 #[.string g] w fun e w' => e = .returned (.tuple #[.int .i64 (unitN (whichD g)).1, .bool (unitN (whichD g)).2]) ∧ w = w' := by
  by_cases h0 : g = dyG 0
  · have HU : Hid (unitN (whichD g) = unitN 0) := Lib.hid (by rw [h0, whichD_at (by decide)])
    have t0 : (g.toList == [43]) = true := str_eq (l := [43]) h0
    have t14 : (g.toList == [226, 136, 168]) = false := str_ne (l := [226, 136, 168]) (by rw [h0]; decide)
    have t2 : (g.toList == [195, 151]) = false := str_ne (l := [195, 151]) (by rw [h0]; decide)
    have t13 : (g.toList == [226, 136, 167]) = false := str_ne (l := [226, 136, 167]) (by rw [h0]; decide)
    clear h0
    go_enter Tryd.func15, Tryd.ntmps15
    go_wp2
    go_ret2
    exact ⟨by rw [HU.out]; rfl, rfl⟩
  by_cases h14 : g = dyG 14
  · have HU : Hid (unitN (whichD g) = unitN 14) := Lib.hid (by rw [h14, whichD_at (by decide)])
    have t0 : (g.toList == [43]) = false := str_ne (l := [43]) (by rw [h14]; decide)
    have t14 : (g.toList == [226, 136, 168]) = true := str_eq (l := [226, 136, 168]) h14
    have t2 : (g.toList == [195, 151]) = false := str_ne (l := [195, 151]) (by rw [h14]; decide)
    have t13 : (g.toList == [226, 136, 167]) = false := str_ne (l := [226, 136, 167]) (by rw [h14]; decide)
    clear h0 h14
    go_enter Tryd.func15, Tryd.ntmps15
    go_wp2
    go_ret2
    exact ⟨by rw [HU.out]; rfl, rfl⟩
  by_cases h2 : g = dyG 2
  · have HU : Hid (unitN (whichD g) = unitN 2) := Lib.hid (by rw [h2, whichD_at (by decide)])
    have t0 : (g.toList == [43]) = false := str_ne (l := [43]) (by rw [h2]; decide)
    have t14 : (g.toList == [226, 136, 168]) = false := str_ne (l := [226, 136, 168]) (by rw [h2]; decide)
    have t2 : (g.toList == [195, 151]) = true := str_eq (l := [195, 151]) h2
    have t13 : (g.toList == [226, 136, 167]) = false := str_ne (l := [226, 136, 167]) (by rw [h2]; decide)
    clear h0 h14 h2
    go_enter Tryd.func15, Tryd.ntmps15
    go_wp2
    go_ret2
    exact ⟨by rw [HU.out]; rfl, rfl⟩
  by_cases h13 : g = dyG 13
  · have HU : Hid (unitN (whichD g) = unitN 13) := Lib.hid (by rw [h13, whichD_at (by decide)])
    have t0 : (g.toList == [43]) = false := str_ne (l := [43]) (by rw [h13]; decide)
    have t14 : (g.toList == [226, 136, 168]) = false := str_ne (l := [226, 136, 168]) (by rw [h13]; decide)
    have t2 : (g.toList == [195, 151]) = false := str_ne (l := [195, 151]) (by rw [h13]; decide)
    have t13 : (g.toList == [226, 136, 167]) = true := str_eq (l := [226, 136, 167]) h13
    clear h0 h14 h2 h13
    go_enter Tryd.func15, Tryd.ntmps15
    go_wp2
    go_ret2
    exact ⟨by rw [HU.out]; rfl, rfl⟩
  have t0 : (g.toList == [43]) = false := str_ne (l := [43]) h0
  have t14 : (g.toList == [226, 136, 168]) = false := str_ne (l := [226, 136, 168]) h14
  have t2 : (g.toList == [195, 151]) = false := str_ne (l := [195, 151]) h2
  have t13 : (g.toList == [226, 136, 167]) = false := str_ne (l := [226, 136, 167]) h13
  have hu : unitN (whichD g) = (0, false) := by
    have hn : ∀ k, whichD g = k → k < 15 → g = dyG k := fun k hk h15 => which_is dyG g 15 0 k hk (by omega)
    match hk : whichD g with
    | 0 => exact absurd (hn 0 hk (by decide)) h0
    | 2 => exact absurd (hn 2 hk (by decide)) h2
    | 13 => exact absurd (hn 13 hk (by decide)) h13
    | 14 => exact absurd (hn 14 hk (by decide)) h14
    | 1 | 3 | 4 | 5 | 6 | 7 | 8 | 9 | 10 | 11 | 12 => rfl
    | n + 15 => rfl
  have HU := Lib.hid hu
  clear hu h0 h2 h13 h14
  go_enter Tryd.func15, Tryd.ntmps15
  go_wp2
  go_ret2
  exact ⟨by rw [HU.out]; rfl, rfl⟩
end Go.Proofs.YtjafngieohpdaaaDoor.Nu
