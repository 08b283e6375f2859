/- Which function a glyph has (by wip/gen/mknudy.py). -/
import Derived.Test.YtjafngieohpdaaaDoorNuFind
namespace Go.Proofs.YtjafngieohpdaaaDoor.Nu
open Go Go.RowKit Go.Shelf
attribute [local go_sem] Oper.semAt_some

/-- A function's value does N, of x with X. -/
def Does (a : Addr) (W : World) (fv : Value) (X : Int → Prop) (N : Int → Int → Int × Int) : Prop := ∃ f cap, fv = .func (.func f) #[] cap ∧ (cap = #[] ∨ ∃ p : Addr, cap = #[.pointer (some p)]) ∧ (∀ args w, (callFunc f args).run Tryd.prog w = .ok (.enter f args) w) ∧ ∀ x y W', Below W.heap.size W W' → ES W' a → X x → In y → Calls Tryd.prog f (#[chkV x y] ++ cap) W' fun e w' => Out a (N x y) W' e w'
def recF : Nat → Nat
  | 0 => 50
  | 1 => 52
  | 2 => 54
  | 3 => 56
  | 4 => 58
  | 5 => 59
  | _ => 60
def oneF : Nat → Nat
  | 0 => 38
  | 1 => 39
  | 2 => 42
  | 3 => 44
  | 4 => 38
  | 5 => 38
  | 6 => 47
  | _ => 48
def judF (b : Nat → Nat) : Nat → Value
  | 13 => fnV 63
  | 14 => fnV 64
  | k => cmpV (b k)
theorem rec_ask (s : ByteArray) : (∃ k, k < 7 ∧ s = dyG k ∧ ∀ (_ : Unit), ∃ i, ask s (recL).zipIdx 0 = some (i, fnV (recF k))) ∨ ((∀ k, k < 7 → s ≠ dyG k) ∧ ∀ (_ : Unit), ask s (recL).zipIdx 0 = none) := by
  by_cases h0 : s = dyG 0
  · exact .inl ⟨0, by decide, h0, fun _ => ⟨0, by rw [h0]; rfl⟩⟩
  by_cases h1 : s = dyG 1
  · exact .inl ⟨1, by decide, h1, fun _ => ⟨1, by rw [h1]; rfl⟩⟩
  by_cases h2 : s = dyG 2
  · exact .inl ⟨2, by decide, h2, fun _ => ⟨2, by rw [h2]; rfl⟩⟩
  by_cases h3 : s = dyG 3
  · exact .inl ⟨3, by decide, h3, fun _ => ⟨3, by rw [h3]; rfl⟩⟩
  by_cases h4 : s = dyG 4
  · exact .inl ⟨4, by decide, h4, fun _ => ⟨4, by rw [h4]; rfl⟩⟩
  by_cases h5 : s = dyG 5
  · exact .inl ⟨5, by decide, h5, fun _ => ⟨5, by rw [h5]; rfl⟩⟩
  by_cases h6 : s = dyG 6
  · exact .inl ⟨6, by decide, h6, fun _ => ⟨6, by rw [h6]; rfl⟩⟩
  refine .inr ⟨fun k hk => ?_, fun _ => ?_⟩
  · rcases (by omega : k = 0 ∨ k = 1 ∨ k = 2 ∨ k = 3 ∨ k = 4 ∨ k = 5 ∨ k = 6) with rfl | rfl | rfl | rfl | rfl | rfl | rfl
    · exact h0
    · exact h1
    · exact h2
    · exact h3
    · exact h4
    · exact h5
    · exact h6
  · show ask s ((recL).zipIdx) 0 = none
    simp only [recL, List.zipIdx_cons, List.zipIdx_nil, ask]
    rw [if_neg (show ¬ s = ⟨#[43]⟩ from h0), if_neg (show ¬ s = ⟨#[45]⟩ from h1), if_neg (show ¬ s = ⟨#[195, 151]⟩ from h2), if_neg (show ¬ s = ⟨#[195, 183]⟩ from h3), if_neg (show ¬ s = ⟨#[226, 140, 136]⟩ from h4), if_neg (show ¬ s = ⟨#[226, 140, 138]⟩ from h5), if_neg (show ¬ s = ⟨#[124]⟩ from h6)]
theorem one_ask (s : ByteArray) : (∃ k, k < 8 ∧ s = monG k ∧ ∀ (_ : Unit), ∃ i, ask s (oneL).zipIdx 0 = some (i, fnV (oneF k))) ∨ ((∀ k, k < 8 → s ≠ monG k) ∧ ∀ (_ : Unit), ask s (oneL).zipIdx 0 = none) := by
  by_cases h0 : s = monG 0
  · exact .inl ⟨0, by decide, h0, fun _ => ⟨0, by rw [h0]; rfl⟩⟩
  by_cases h1 : s = monG 1
  · exact .inl ⟨1, by decide, h1, fun _ => ⟨1, by rw [h1]; rfl⟩⟩
  by_cases h2 : s = monG 2
  · exact .inl ⟨2, by decide, h2, fun _ => ⟨2, by rw [h2]; rfl⟩⟩
  by_cases h3 : s = monG 3
  · exact .inl ⟨3, by decide, h3, fun _ => ⟨3, by rw [h3]; rfl⟩⟩
  by_cases h4 : s = monG 4
  · exact .inl ⟨4, by decide, h4, fun _ => ⟨4, by rw [h4]; rfl⟩⟩
  by_cases h5 : s = monG 5
  · exact .inl ⟨5, by decide, h5, fun _ => ⟨5, by rw [h5]; rfl⟩⟩
  by_cases h6 : s = monG 6
  · exact .inl ⟨6, by decide, h6, fun _ => ⟨6, by rw [h6]; rfl⟩⟩
  by_cases h7 : s = monG 7
  · exact .inl ⟨7, by decide, h7, fun _ => ⟨7, by rw [h7]; rfl⟩⟩
  refine .inr ⟨fun k hk => ?_, fun _ => ?_⟩
  · rcases (by omega : k = 0 ∨ k = 1 ∨ k = 2 ∨ k = 3 ∨ k = 4 ∨ k = 5 ∨ k = 6 ∨ k = 7) with rfl | rfl | rfl | rfl | rfl | rfl | rfl | rfl
    · exact h0
    · exact h1
    · exact h2
    · exact h3
    · exact h4
    · exact h5
    · exact h6
    · exact h7
  · show ask s ((oneL).zipIdx) 0 = none
    simp only [oneL, List.zipIdx_cons, List.zipIdx_nil, ask]
    rw [if_neg (show ¬ s = ⟨#[43]⟩ from h0), if_neg (show ¬ s = ⟨#[45]⟩ from h1), if_neg (show ¬ s = ⟨#[195, 151]⟩ from h2), if_neg (show ¬ s = ⟨#[195, 183]⟩ from h3), if_neg (show ¬ s = ⟨#[226, 140, 136]⟩ from h4), if_neg (show ¬ s = ⟨#[226, 140, 138]⟩ from h5), if_neg (show ¬ s = ⟨#[124]⟩ from h6), if_neg (show ¬ s = ⟨#[126]⟩ from h7)]
theorem jud_ask (s : ByteArray) : (∃ k, 7 ≤ k ∧ k < 15 ∧ s = dyG k ∧ ∀ b, ∃ i, ask s (judL b).zipIdx 0 = some (i, judF b k)) ∨ ((∀ k, 7 ≤ k → k < 15 → s ≠ dyG k) ∧ ∀ b, ask s (judL b).zipIdx 0 = none) := by
  by_cases h7 : s = dyG 7
  · exact .inl ⟨7, by decide, by decide, h7, fun _ => ⟨0, by rw [h7]; rfl⟩⟩
  by_cases h8 : s = dyG 8
  · exact .inl ⟨8, by decide, by decide, h8, fun _ => ⟨1, by rw [h8]; rfl⟩⟩
  by_cases h9 : s = dyG 9
  · exact .inl ⟨9, by decide, by decide, h9, fun _ => ⟨2, by rw [h9]; rfl⟩⟩
  by_cases h10 : s = dyG 10
  · exact .inl ⟨10, by decide, by decide, h10, fun _ => ⟨3, by rw [h10]; rfl⟩⟩
  by_cases h11 : s = dyG 11
  · exact .inl ⟨11, by decide, by decide, h11, fun _ => ⟨4, by rw [h11]; rfl⟩⟩
  by_cases h12 : s = dyG 12
  · exact .inl ⟨12, by decide, by decide, h12, fun _ => ⟨5, by rw [h12]; rfl⟩⟩
  by_cases h13 : s = dyG 13
  · exact .inl ⟨13, by decide, by decide, h13, fun _ => ⟨6, by rw [h13]; rfl⟩⟩
  by_cases h14 : s = dyG 14
  · exact .inl ⟨14, by decide, by decide, h14, fun _ => ⟨7, by rw [h14]; rfl⟩⟩
  refine .inr ⟨fun k h0 hk => ?_, fun _ => ?_⟩
  · rcases (by omega : k = 7 ∨ k = 8 ∨ k = 9 ∨ k = 10 ∨ k = 11 ∨ k = 12 ∨ k = 13 ∨ k = 14) with rfl | rfl | rfl | rfl | rfl | rfl | rfl | rfl
    · exact h7
    · exact h8
    · exact h9
    · exact h10
    · exact h11
    · exact h12
    · exact h13
    · exact h14
  · show ask s ((judL _).zipIdx) 0 = none
    simp only [judL, List.zipIdx_cons, List.zipIdx_nil, ask]
    rw [if_neg (show ¬ s = ⟨#[61]⟩ from h7), if_neg (show ¬ s = ⟨#[226, 137, 160]⟩ from h8), if_neg (show ¬ s = ⟨#[60]⟩ from h9), if_neg (show ¬ s = ⟨#[62]⟩ from h10), if_neg (show ¬ s = ⟨#[226, 137, 164]⟩ from h11), if_neg (show ¬ s = ⟨#[226, 137, 165]⟩ from h12), if_neg (show ¬ s = ⟨#[226, 136, 167]⟩ from h13), if_neg (show ¬ s = ⟨#[226, 136, 168]⟩ from h14)]
theorem whichD_at {k : Nat} (h : k < 15) : whichD (dyG k) = k := by
  rcases (by omega : k = 0 ∨ k = 1 ∨ k = 2 ∨ k = 3 ∨ k = 4 ∨ k = 5 ∨ k = 6 ∨ k = 7 ∨ k = 8 ∨ k = 9 ∨ k = 10 ∨ k = 11 ∨ k = 12 ∨ k = 13 ∨ k = 14) with rfl | rfl | rfl | rfl | rfl | rfl | rfl | rfl | rfl | rfl | rfl | rfl | rfl | rfl | rfl <;> rfl
theorem whichM_at {k : Nat} (h : k < 8) : whichM (monG k) = k := by
  rcases (by omega : k = 0 ∨ k = 1 ∨ k = 2 ∨ k = 3 ∨ k = 4 ∨ k = 5 ∨ k = 6 ∨ k = 7) with rfl | rfl | rfl | rfl | rfl | rfl | rfl | rfl <;> rfl
theorem which_no (G : Nat → ByteArray) (g : ByteArray) : ∀ n i, (∀ k, i ≤ k → k < i + n → g ≠ G k) → whichG G g n i = i + n
  | 0, _, _ => rfl
  | n + 1, i, h => by
    simp only [whichG]
    rw [if_neg (h i (Nat.le_refl _) (by omega)), which_no G g n (i + 1) (fun k h0 h1 => h k (by omega) (by omega))]
    omega
theorem whichD_no {g : ByteArray} (h : ∀ k, k < 15 → g ≠ dyG k) : whichD g = 15 := by unfold whichD; rw [which_no dyG g 15 0 (fun k _ hk => h k (by omega))]
theorem whichM_no {g : ByteArray} (h : ∀ k, k < 8 → g ≠ monG k) : whichM g = 8 := by unfold whichM; rw [which_no monG g 8 0 (fun k _ hk => h k (by omega))]
theorem does_rec (a : Addr) (W : World) (k : Nat) (hk : k < 7) : Does a W (fnV (recF k)) In (dyN k) := by
  rcases (by omega : k = 0 ∨ k = 1 ∨ k = 2 ∨ k = 3 ∨ k = 4 ∨ k = 5 ∨ k = 6) with rfl | rfl | rfl | rfl | rfl | rfl | rfl
  · exact ⟨50, #[], rfl, .inl rfl, fun args w => enters_of Tryd.func50 (by kernel_rfl) rfl args w, fun x y W' _ _ hx hy => do_add a x y hx hy W'⟩
  · exact ⟨52, #[], rfl, .inl rfl, fun args w => enters_of Tryd.func52 (by kernel_rfl) rfl args w, fun x y W' _ _ hx hy => do_sub a x y hx hy W'⟩
  · exact ⟨54, #[], rfl, .inl rfl, fun args w => enters_of Tryd.func54 (by kernel_rfl) rfl args w, fun x y W' _ _ hx hy => do_mul a x y hx hy W'⟩
  · exact ⟨56, #[], rfl, .inl rfl, fun args w => enters_of Tryd.func56 (by kernel_rfl) rfl args w, fun x y W' _ _ hx hy => do_div a x y hx hy W'⟩
  · exact ⟨58, #[], rfl, .inl rfl, fun args w => enters_of Tryd.func58 (by kernel_rfl) rfl args w, fun x y W' _ _ _ _ => do_max a x y W'⟩
  · exact ⟨59, #[], rfl, .inl rfl, fun args w => enters_of Tryd.func59 (by kernel_rfl) rfl args w, fun x y W' _ _ _ _ => do_min a x y W'⟩
  · exact ⟨60, #[], rfl, .inl rfl, fun args w => enters_of Tryd.func60 (by kernel_rfl) rfl args w, fun x y W' _ _ hx hy => do_res a x y hx hy W'⟩
theorem does_one (a : Addr) (W : World) (k : Nat) (hk : k < 8) : Does a W (fnV (oneF k)) (fun x => x = 0) (fun _ y => monN k y) := by
  rcases (by omega : k = 0 ∨ k = 1 ∨ k = 2 ∨ k = 3 ∨ k = 4 ∨ k = 5 ∨ k = 6 ∨ k = 7) with rfl | rfl | rfl | rfl | rfl | rfl | rfl | rfl
  · exact ⟨38, #[], rfl, .inl rfl, fun args w => enters_of Tryd.func38 (by kernel_rfl) rfl args w, fun x y W' _ _ _ _ => do_same a x y W'⟩
  · exact ⟨39, #[], rfl, .inl rfl, fun args w => enters_of Tryd.func39 (by kernel_rfl) rfl args w, fun x y W' _ _ _ hy => do_neg a x y hy W'⟩
  · exact ⟨42, #[], rfl, .inl rfl, fun args w => enters_of Tryd.func42 (by kernel_rfl) rfl args w, fun x y W' _ _ _ _ => do_sign a x y W'⟩
  · exact ⟨44, #[], rfl, .inl rfl, fun args w => enters_of Tryd.func44 (by kernel_rfl) rfl args w, fun x y W' _ _ hx hy => by subst hx; exact do_inv a y hy W'⟩
  · exact ⟨38, #[], rfl, .inl rfl, fun args w => enters_of Tryd.func38 (by kernel_rfl) rfl args w, fun x y W' _ _ _ _ => do_same a x y W'⟩
  · exact ⟨38, #[], rfl, .inl rfl, fun args w => enters_of Tryd.func38 (by kernel_rfl) rfl args w, fun x y W' _ _ _ _ => do_same a x y W'⟩
  · exact ⟨47, #[], rfl, .inl rfl, fun args w => enters_of Tryd.func47 (by kernel_rfl) rfl args w, fun x y W' _ _ _ hy => do_abs a x y hy W'⟩
  · exact ⟨48, #[], rfl, .inl rfl, fun args w => enters_of Tryd.func48 (by kernel_rfl) rfl args w, fun x y W' _ hE hx _ => by subst hx; exact do_not a y W' hE⟩
theorem does_jud (a : Addr) (W : World) (b : Nat → Nat) (k : Nat) (h0 : 7 ≤ k) (hk : k < 15) (hb : ∀ k, 7 ≤ k → k < 13 → b k < W.heap.size ∧ W.cell? ⟨b k, 0, none⟩ = some (.string (dyG k))) : Does a W (judF b k) In (dyN k) := by
  rcases (by omega : k = 7 ∨ k = 8 ∨ k = 9 ∨ k = 10 ∨ k = 11 ∨ k = 12 ∨ k = 13 ∨ k = 14) with rfl | rfl | rfl | rfl | rfl | rfl | rfl | rfl
  · obtain ⟨hl, hc⟩ := hb 7 (by decide) (by decide)
    exact ⟨75, _, rfl, .inr ⟨_, rfl⟩, fun args w => enters_of Tryd.func75 (by kernel_rfl) rfl args w, fun x y W' hB _ _ _ => do_cmp a x y (dyG 7) (decide (x = y)) (b 7) W' ((hB.cell (p := ⟨b 7, 0, none⟩) hl).trans hc) (Nat.lt_of_lt_of_le hl hB.size) (fun W2 => holds_7 x y W2)⟩
  · obtain ⟨hl, hc⟩ := hb 8 (by decide) (by decide)
    exact ⟨75, _, rfl, .inr ⟨_, rfl⟩, fun args w => enters_of Tryd.func75 (by kernel_rfl) rfl args w, fun x y W' hB _ _ _ => do_cmp a x y (dyG 8) (decide (x ≠ y)) (b 8) W' ((hB.cell (p := ⟨b 8, 0, none⟩) hl).trans hc) (Nat.lt_of_lt_of_le hl hB.size) (fun W2 => holds_8 x y W2)⟩
  · obtain ⟨hl, hc⟩ := hb 9 (by decide) (by decide)
    exact ⟨75, _, rfl, .inr ⟨_, rfl⟩, fun args w => enters_of Tryd.func75 (by kernel_rfl) rfl args w, fun x y W' hB _ _ _ => do_cmp a x y (dyG 9) (decide (x < y)) (b 9) W' ((hB.cell (p := ⟨b 9, 0, none⟩) hl).trans hc) (Nat.lt_of_lt_of_le hl hB.size) (fun W2 => holds_9 x y W2)⟩
  · obtain ⟨hl, hc⟩ := hb 10 (by decide) (by decide)
    exact ⟨75, _, rfl, .inr ⟨_, rfl⟩, fun args w => enters_of Tryd.func75 (by kernel_rfl) rfl args w, fun x y W' hB _ _ _ => do_cmp a x y (dyG 10) (decide (y < x)) (b 10) W' ((hB.cell (p := ⟨b 10, 0, none⟩) hl).trans hc) (Nat.lt_of_lt_of_le hl hB.size) (fun W2 => holds_10 x y W2)⟩
  · obtain ⟨hl, hc⟩ := hb 11 (by decide) (by decide)
    exact ⟨75, _, rfl, .inr ⟨_, rfl⟩, fun args w => enters_of Tryd.func75 (by kernel_rfl) rfl args w, fun x y W' hB _ _ _ => do_cmp a x y (dyG 11) (decide (x ≤ y)) (b 11) W' ((hB.cell (p := ⟨b 11, 0, none⟩) hl).trans hc) (Nat.lt_of_lt_of_le hl hB.size) (fun W2 => holds_11 x y W2)⟩
  · obtain ⟨hl, hc⟩ := hb 12 (by decide) (by decide)
    exact ⟨75, _, rfl, .inr ⟨_, rfl⟩, fun args w => enters_of Tryd.func75 (by kernel_rfl) rfl args w, fun x y W' hB _ _ _ => do_cmp a x y (dyG 12) (decide (y ≤ x)) (b 12) W' ((hB.cell (p := ⟨b 12, 0, none⟩) hl).trans hc) (Nat.lt_of_lt_of_le hl hB.size) (fun W2 => holds_12 x y W2)⟩
  · exact ⟨63, #[], rfl, .inl rfl, fun args w => enters_of Tryd.func63 (by kernel_rfl) rfl args w, fun x y W' _ hE _ _ => do_and a x y W' hE⟩
  · exact ⟨64, #[], rfl, .inl rfl, fun args w => enters_of Tryd.func64 (by kernel_rfl) rfl args w, fun x y W' _ hE _ _ => do_or a x y W' hE⟩
theorem Does.below {a : Addr} {W W' : World} {fv : Value} {X : Int → Prop} {N : Int → Int → Int × Int} (h : Does a W fv X N) (hb : Below W.heap.size W W') : Does a W' fv X N := by
  obtain ⟨f, cap, h1, h2, h3, h4⟩ := h
  exact ⟨f, cap, h1, h2, h3, fun x y W2 hb2 => h4 x y W2 (hb.trans (hb2.mono hb.size))⟩
/-- What a finder answers. -/
def Found (a : Addr) (ok : Bool) (X : Int → Prop) (N : Int → Int → Int × Int) (w : World) (e : Ending) (w' : World) : Prop := ∃ fv, e = .returned (.tuple #[fv, .bool ok]) ∧ (ok = true → Does a w' fv X N) ∧ Below w.heap.size w w'
theorem find1_c (a : Addr) (g : ByteArray) (w : World) : Calls Tryd.prog 30 #[.string g] w fun e w' => Found a (decide (whichM g < 8)) (fun x => x = 0) (fun _ y => monN (whichM g) y) w e w' := by
  refine (ofOne_c g w).mono ?_
  rintro e w' ⟨rfl, hb⟩
  rcases one_ask g with ⟨k, hk, rfl, h⟩ | ⟨hn, h⟩
  · obtain ⟨i, hi⟩ := h ()
    rw [hi, whichM_at hk]
    exact ⟨_, by rw [decide_eq_true hk]; rfl, fun _ => does_one a w' k hk, hb⟩
  · rw [h (), whichM_no hn]
    exact ⟨_, rfl, fun h => absurd h (by decide), hb⟩
set_option maxRecDepth 100000 in
theorem find2_c (a : Addr) (g : ByteArray) (w : World) : Calls Tryd.prog 22 #[.string g] w fun e w' => Found a (decide (whichD g < 15)) In (dyN (whichD g)) w e w' := by
  have HR := Lib.hid (reckoner_c g w)
  rcases rec_ask g with ⟨k, hk, hg, h⟩ | ⟨hn, h⟩
  · obtain ⟨i, hi⟩ := h ()
    rw [hi] at HR
    have hw : whichD g = k := by rw [hg]; exact whichD_at (by omega)
    rw [hw, decide_eq_true (by omega : k < 15)]
    have HD := Lib.hid (fun W => does_rec a W k hk)
    obtain ⟨fv, hfv⟩ : ∃ fv, fv = fnV (recF k) := ⟨_, rfl⟩
    have e1 : fvOf (some (i, fnV (recF k))) = fv := hfv.symm
    have e2 : okOf (some (i, fnV (recF k))) = true := rfl
    rw [e1, e2] at HR
    rw [← hfv] at HD
    clear e1 e2 hfv hi h hg hw
    go_enter Tryd.func22, Tryd.ntmps22
    go_wp2_with (go_at_call 33; refine HR.out.mono ?_; rintro e w1 ⟨rfl, hb1⟩; have HB1 := Lib.hid hb1; clear hb1)
    go_ret2
    exact ⟨_, rfl, fun _ => HD.out _, HB1.out⟩
  · rw [h ()] at HR
    have e1 : fvOf none = .nilFunc := rfl
    have e2 : okOf none = false := rfl
    rw [e1, e2] at HR
    have HJ := Lib.hid (fun W => judge_c g W)
    have hj : ∃ ok, ok = decide (whichD g < 15) ∧ (∀ b, okOf (ask g (judL b).zipIdx 0) = ok) ∧ (ok = true → ∀ b W, (∀ k, 7 ≤ k → k < 13 → b k < W.heap.size ∧ W.cell? ⟨b k, 0, none⟩ = some (.string (dyG k))) → Does a W (fvOf (ask g (judL b).zipIdx 0)) In (dyN (whichD g))) := by
      rcases jud_ask g with ⟨k, h7, hk, hg, h⟩ | ⟨hn2, h⟩
      · have hw : whichD g = k := by rw [hg]; exact whichD_at hk
        refine ⟨true, by rw [hw, decide_eq_true hk], fun b => ?_, fun _ b W hb => ?_⟩
        · obtain ⟨i, hi⟩ := h b
          rw [hi]
          rfl
        · obtain ⟨i, hi⟩ := h b
          rw [hi, hw]
          exact does_jud a W b k h7 hk hb
      · have hw : whichD g = 15 := whichD_no (fun k hk => by
          rcases Nat.lt_or_ge k 7 with h7 | h7
          · exact hn k h7
          · exact hn2 k h7 hk)
        exact ⟨false, by rw [hw]; rfl, fun b => by rw [h b]; rfl, fun h => by cases h⟩
    obtain ⟨ok, hok, ho1, ho2⟩ := hj
    rw [← hok]
    have HO1 := Lib.hid ho1
    have HO2 := Lib.hid ho2
    clear hok ho1 ho2 h hn e1 e2
    go_enter Tryd.func22, Tryd.ntmps22
    go_wp2_with (go_at_call 33; refine HR.out.mono ?_; rintro e w1 ⟨rfl, hb1⟩; have HB1 := Lib.hid hb1; clear hb1)
    refine (HJ.out _).mono ?_
    rintro e w2 ⟨b, rfl, hs, hb2⟩
    have HS := Lib.hid (And.intro hs hb2)
    have e3 := HO1.out b
    obtain ⟨fv, hfv⟩ : ∃ fv, fv = fvOf (ask g (judL b).zipIdx 0) := ⟨_, rfl⟩
    rw [e3, ← hfv]
    have HFV := Lib.hid hfv
    clear hs hb2 e3 hfv
    go_wp2
    go_ret2
    exact ⟨_, rfl, fun h => by rw [HFV.out]; exact HO2.out h b _ HS.out.1, HB1.out.trans (HS.out.2.mono HB1.out.size)⟩
end Go.Proofs.YtjafngieohpdaaaDoor.Nu
