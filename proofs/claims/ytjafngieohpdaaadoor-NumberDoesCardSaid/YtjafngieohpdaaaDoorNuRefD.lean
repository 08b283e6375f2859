/- The plain answers of number (by wip/gen/mknuref.py). -/
import Derived.Test.YtjafngieohpdaaaDoorNuRef
namespace Go.Proofs.YtjafngieohpdaaaDoor.Nu
open Go Go.RowKit Go.Shelf
attribute [local go_sem] Oper.semAt_some

theorem eqs {x s : ByteArray} (h : x = s) : (x.toList == s.toList) = true := by subst h; exact beq_self_eq_true _
theorem nes {x s : ByteArray} (h : x ≠ s) : (x.toList == s.toList) = false := by
  rw [ByteArray.toList_eq, ByteArray.toList_eq, Bool.eq_false_iff]
  intro e
  have e := eq_of_beq e
  exact h (by cases x; cases s; simp at e; simp [e])
/-- Is a text in a list? -/
def inB (s : ByteArray) (L : List ByteArray) : Bool := L.any fun t => decide (t = s)
theorem inB_iff (s : ByteArray) (L : List ByteArray) : inB s L = true ↔ s ∈ L := by
  unfold inB
  rw [List.any_eq_true]
  constructor
  · rintro ⟨t, ht, e⟩
    rw [← of_decide_eq_true e]
    exact ht
  · exact fun h => ⟨s, h, decide_eq_true rfl⟩
theorem inB_no {s : ByteArray} {L : List ByteArray} (h : s ∉ L) : inB s L = false := by
  cases e : inB s L
  · rfl
  · exact absurd ((inB_iff s L).1 e) h
/-- A list of texts in memory, from block b on. -/
def Texts (w : World) (b : Nat) (L : List ByteArray) : Prop := ∀ i t, L[i]? = some t → w.cell? ⟨b, i, none⟩ = some (.string t)
set_option maxRecDepth 100000 in
theorem in_c (w : World) (b : Nat) (L : List ByteArray) (hL : Texts w b L) (hn : L.length ≤ 100) (s : ByteArray) : Calls Tryd.prog 32 #[.slice (some ⟨b, 0, none⟩) L.length L.length, .string s] w fun e w' => e = .returned (.bool (inB s L)) ∧ w = w' := by
  obtain ⟨n, hnn⟩ : ∃ n, n = L.length := ⟨_, rfl⟩
  have HN := Lib.hid hnn
  have HL := Lib.hid hL
  rw [← hnn] at hn ⊢
  clear hL hnn
  go_enter Tryd.func32, Tryd.ntmps32
  go_wp2
  go_loop [5] (fun i => ∃ k : Nat, k ≤ n ∧ i = .int .i64 (k : Int) ∧ s ∉ L.take k) (fun i => n - (intOf i).toNat)
  case atStart => exact ⟨0, Nat.zero_le _, rfl, by simp⟩
  case round =>
    obtain ⟨k, hk, rfl, hno⟩ := hrel
    have HNO := Lib.hid hno
    clear hno
    by_cases hlt : k < n
    · obtain ⟨t, ht⟩ : ∃ t, L[k]? = some t := ⟨_, List.getElem?_eq_getElem (by rw [← HN.out]; exact hlt)⟩
      have hc := HL.out k t ht
      have HT := Lib.hid ht
      clear ht
      by_cases hts : t = s
      · have t1 := eqs hts
        have HE : Hid (inB s L = true) := Lib.hid ((inB_iff s L).2 (by rw [← hts]; exact List.mem_of_getElem? HT.out))
        clear hts
        go_wp2
        go_ret
        exact ⟨by rw [HE.out]; rfl, rfl⟩
      · have t1 := nes hts
        have HE : Hid (s ∉ L.take (k + 1)) := Lib.hid (by rw [List.take_add_one, HT.out, List.mem_append]; simp; exact ⟨HNO.out, fun e => hts e.symm⟩)
        clear hts
        go_wp2
        go_round
        case rel => exact ⟨k + 1, by omega, by go_num, HE.out⟩
        case measure => simp [intOf]; omega
    · have hkn : k = n := by omega
      have HE : Hid (inB s L = false) := Lib.hid (inB_no (by have := HNO.out; rw [hkn, HN.out, List.take_length] at this; exact this))
      subst hkn
      go_wp2
      go_ret
      exact ⟨by rw [HE.out]; rfl, rfl⟩
def dyL : List ByteArray := [⟨#[43]⟩, ⟨#[45]⟩, ⟨#[195, 151]⟩, ⟨#[195, 183]⟩, ⟨#[226, 140, 136]⟩, ⟨#[226, 140, 138]⟩, ⟨#[124]⟩, ⟨#[61]⟩, ⟨#[226, 137, 160]⟩, ⟨#[60]⟩, ⟨#[62]⟩, ⟨#[226, 137, 164]⟩, ⟨#[226, 137, 165]⟩, ⟨#[226, 136, 167]⟩, ⟨#[226, 136, 168]⟩]
def monL : List ByteArray := [⟨#[43]⟩, ⟨#[45]⟩, ⟨#[195, 151]⟩, ⟨#[195, 183]⟩, ⟨#[226, 140, 136]⟩, ⟨#[226, 140, 138]⟩, ⟨#[124]⟩, ⟨#[126]⟩]
theorem dyL_mem (g : ByteArray) : inB g dyL = decide (whichD g < 15) := by
  by_cases h : ∃ k, k < 15 ∧ g = dyG k
  · obtain ⟨k, hk, rfl⟩ := h
    rw [whichD_at hk, decide_eq_true hk, inB_iff]
    rcases (by omega : k = 0 ∨ k = 1 ∨ k = 2 ∨ k = 3 ∨ k = 4 ∨ k = 5 ∨ k = 6 ∨ k = 7 ∨ k = 8 ∨ k = 9 ∨ k = 10 ∨ k = 11 ∨ k = 12 ∨ k = 13 ∨ k = 14) with rfl | rfl | rfl | rfl | rfl | rfl | rfl | rfl | rfl | rfl | rfl | rfl | rfl | rfl | rfl <;> simp [dyL, dyG]
  · have hn : ∀ k, k < 15 → g ≠ dyG k := fun k hk e => h ⟨k, hk, e⟩
    rw [whichD_no hn, decide_eq_false_iff_not.2 (by decide : ¬ 15 < 15)]
    refine inB_no (fun hm => ?_)
    simp only [dyL, List.mem_cons, List.not_mem_nil, or_false] at hm
    rcases hm with e | e | e | e | e | e | e | e | e | e | e | e | e | e | e
    · exact hn 0 (by decide) e
    · exact hn 1 (by decide) e
    · exact hn 2 (by decide) e
    · exact hn 3 (by decide) e
    · exact hn 4 (by decide) e
    · exact hn 5 (by decide) e
    · exact hn 6 (by decide) e
    · exact hn 7 (by decide) e
    · exact hn 8 (by decide) e
    · exact hn 9 (by decide) e
    · exact hn 10 (by decide) e
    · exact hn 11 (by decide) e
    · exact hn 12 (by decide) e
    · exact hn 13 (by decide) e
    · exact hn 14 (by decide) e
theorem monL_mem (g : ByteArray) : inB g monL = decide (whichM g < 8) := by
  by_cases h : ∃ k, k < 8 ∧ g = monG k
  · obtain ⟨k, hk, rfl⟩ := h
    rw [whichM_at hk, decide_eq_true hk, inB_iff]
    rcases (by omega : k = 0 ∨ k = 1 ∨ k = 2 ∨ k = 3 ∨ k = 4 ∨ k = 5 ∨ k = 6 ∨ k = 7) with rfl | rfl | rfl | rfl | rfl | rfl | rfl | rfl <;> simp [monL, monG]
  · have hn : ∀ k, k < 8 → g ≠ monG k := fun k hk e => h ⟨k, hk, e⟩
    rw [whichM_no hn, decide_eq_false_iff_not.2 (by decide : ¬ 8 < 8)]
    refine inB_no (fun hm => ?_)
    simp only [monL, List.mem_cons, List.not_mem_nil, or_false] at hm
    rcases hm with e | e | e | e | e | e | e | e
    · exact hn 0 (by decide) e
    · exact hn 1 (by decide) e
    · exact hn 2 (by decide) e
    · exact hn 3 (by decide) e
    · exact hn 4 (by decide) e
    · exact hn 5 (by decide) e
    · exact hn 6 (by decide) e
    · exact hn 7 (by decide) e
set_option maxRecDepth 100000 in
theorem rIsDy_c (g : ByteArray) (w : World) : Calls Tryd.prog 18 #[.string g] w fun e w' => e = .returned (.bool (decide (whichD g < 15))) ∧ Below w.heap.size w w' := by
  have HB := Lib.hid ((Below.refl w.heap.size w).alloc (Nat.le_refl _) (.cells #[.string ⟨#[43]⟩, .string ⟨#[45]⟩, .string ⟨#[195, 151]⟩, .string ⟨#[195, 183]⟩, .string ⟨#[226, 140, 136]⟩, .string ⟨#[226, 140, 138]⟩, .string ⟨#[124]⟩, .string ⟨#[61]⟩, .string ⟨#[226, 137, 160]⟩, .string ⟨#[60]⟩, .string ⟨#[62]⟩, .string ⟨#[226, 137, 164]⟩, .string ⟨#[226, 137, 165]⟩, .string ⟨#[226, 136, 167]⟩, .string ⟨#[226, 136, 168]⟩] 9))
  have hT : Texts (w.alloc (.cells #[.string ⟨#[43]⟩, .string ⟨#[45]⟩, .string ⟨#[195, 151]⟩, .string ⟨#[195, 183]⟩, .string ⟨#[226, 140, 136]⟩, .string ⟨#[226, 140, 138]⟩, .string ⟨#[124]⟩, .string ⟨#[61]⟩, .string ⟨#[226, 137, 160]⟩, .string ⟨#[60]⟩, .string ⟨#[62]⟩, .string ⟨#[226, 137, 164]⟩, .string ⟨#[226, 137, 165]⟩, .string ⟨#[226, 136, 167]⟩, .string ⟨#[226, 136, 168]⟩] 9)) w.heap.size dyL := by
    intro i t hi
    have hl := (List.getElem?_eq_some_iff.1 hi).1
    simp only [dyL, List.length_cons, List.length_nil] at hl
    rcases (by omega : i = 0 ∨ i = 1 ∨ i = 2 ∨ i = 3 ∨ i = 4 ∨ i = 5 ∨ i = 6 ∨ i = 7 ∨ i = 8 ∨ i = 9 ∨ i = 10 ∨ i = 11 ∨ i = 12 ∨ i = 13 ∨ i = 14) with rfl | rfl | rfl | rfl | rfl | rfl | rfl | rfl | rfl | rfl | rfl | rfl | rfl | rfl | rfl <;> (injection hi with hi; subst hi; simp)
  have hc := in_c _ _ dyL hT (by decide) g
  rw [dyL_mem] at hc
  have HC := Lib.hid hc
  clear hc
  go_enter Tryd.func18, Tryd.ntmps18
  go_wp2_with (go_at_call 32; refine HC.out.mono ?_; rintro e w' ⟨rfl, rfl⟩)
  go_ret
  exact ⟨rfl, HB.out⟩
set_option maxRecDepth 100000 in
theorem rIsMon_c (g : ByteArray) (w : World) : Calls Tryd.prog 20 #[.string g] w fun e w' => e = .returned (.bool (decide (whichM g < 8))) ∧ Below w.heap.size w w' := by
  have HB := Lib.hid ((Below.refl w.heap.size w).alloc (Nat.le_refl _) (.cells #[.string ⟨#[43]⟩, .string ⟨#[45]⟩, .string ⟨#[195, 151]⟩, .string ⟨#[195, 183]⟩, .string ⟨#[226, 140, 136]⟩, .string ⟨#[226, 140, 138]⟩, .string ⟨#[124]⟩, .string ⟨#[126]⟩] 9))
  have hT : Texts (w.alloc (.cells #[.string ⟨#[43]⟩, .string ⟨#[45]⟩, .string ⟨#[195, 151]⟩, .string ⟨#[195, 183]⟩, .string ⟨#[226, 140, 136]⟩, .string ⟨#[226, 140, 138]⟩, .string ⟨#[124]⟩, .string ⟨#[126]⟩] 9)) w.heap.size monL := by
    intro i t hi
    have hl := (List.getElem?_eq_some_iff.1 hi).1
    simp only [monL, List.length_cons, List.length_nil] at hl
    rcases (by omega : i = 0 ∨ i = 1 ∨ i = 2 ∨ i = 3 ∨ i = 4 ∨ i = 5 ∨ i = 6 ∨ i = 7) with rfl | rfl | rfl | rfl | rfl | rfl | rfl | rfl <;> (injection hi with hi; subst hi; simp)
  have hc := in_c _ _ monL hT (by decide) g
  rw [monL_mem] at hc
  have HC := Lib.hid hc
  clear hc
  go_enter Tryd.func20, Tryd.ntmps20
  go_wp2_with (go_at_call 32; refine HC.out.mono ?_; rintro e w' ⟨rfl, rfl⟩)
  go_ret
  exact ⟨rfl, HB.out⟩
theorem which15 (g : ByteArray) : (∃ k, k < 15 ∧ g = dyG k ∧ whichD g = k) ∨ ((∀ k, k < 15 → g ≠ dyG k) ∧ whichD g = 15) := by
  by_cases h : ∃ k, k < 15 ∧ g = dyG k
  · obtain ⟨k, hk, e⟩ := h
    exact .inl ⟨k, hk, e, by rw [e]; exact whichD_at hk⟩
  · have hn : ∀ k, k < 15 → g ≠ dyG k := fun k hk e => h ⟨k, hk, e⟩
    exact .inr ⟨hn, whichD_no hn⟩
theorem which8 (g : ByteArray) : (∃ k, k < 8 ∧ g = monG k ∧ whichM g = k) ∨ ((∀ k, k < 8 → g ≠ monG k) ∧ whichM g = 8) := by
  by_cases h : ∃ k, k < 8 ∧ g = monG k
  · obtain ⟨k, hk, e⟩ := h
    exact .inl ⟨k, hk, e, by rw [e]; exact whichM_at hk⟩
  · have hn : ∀ k, k < 8 → g ≠ monG k := fun k hk e => h ⟨k, hk, e⟩
    exact .inr ⟨hn, whichM_no hn⟩
theorem unitN_no {k : Nat} (h0 : k ≠ 0) (h2 : k ≠ 2) (h13 : k ≠ 13) (h14 : k ≠ 14) : unitN k = (0, false) := by
  unfold unitN
  split <;> first | rfl | (exfalso; omega)
set_option maxRecDepth 100000 in
theorem rUnit_c (g : ByteArray) (w : World) : Calls Tryd.prog 16 #[.string g] w fun e w' => e = .returned (.tuple #[.int .i64 (unitN (whichD g)).1, .bool (unitN (whichD g)).2]) ∧ w = w' := by
  by_cases h0 : g = dyG 0
  · have HU : Hid (unitN (whichD g) = unitN 0) := Lib.hid (by rw [h0, whichD_at (by decide)])
    have t0 : (g.toList == [43]) = true := str_eq (l := [43]) h0
    have t14 : (g.toList == [226, 136, 168]) = false := str_ne (l := [226, 136, 168]) (by rw [h0]; decide)
    have t2 : (g.toList == [195, 151]) = false := str_ne (l := [195, 151]) (by rw [h0]; decide)
    have t13 : (g.toList == [226, 136, 167]) = false := str_ne (l := [226, 136, 167]) (by rw [h0]; decide)
    clear h0
    go_enter Tryd.func16, Tryd.ntmps16
    go_wp2
    go_ret2
    exact ⟨by rw [HU.out]; rfl, rfl⟩
  by_cases h14 : g = dyG 14
  · have HU : Hid (unitN (whichD g) = unitN 14) := Lib.hid (by rw [h14, whichD_at (by decide)])
    have t0 : (g.toList == [43]) = false := str_ne (l := [43]) (by rw [h14]; decide)
    have t14 : (g.toList == [226, 136, 168]) = true := str_eq (l := [226, 136, 168]) h14
    have t2 : (g.toList == [195, 151]) = false := str_ne (l := [195, 151]) (by rw [h14]; decide)
    have t13 : (g.toList == [226, 136, 167]) = false := str_ne (l := [226, 136, 167]) (by rw [h14]; decide)
    clear h0 h14
    go_enter Tryd.func16, Tryd.ntmps16
    go_wp2
    go_ret2
    exact ⟨by rw [HU.out]; rfl, rfl⟩
  by_cases h2 : g = dyG 2
  · have HU : Hid (unitN (whichD g) = unitN 2) := Lib.hid (by rw [h2, whichD_at (by decide)])
    have t0 : (g.toList == [43]) = false := str_ne (l := [43]) (by rw [h2]; decide)
    have t14 : (g.toList == [226, 136, 168]) = false := str_ne (l := [226, 136, 168]) (by rw [h2]; decide)
    have t2 : (g.toList == [195, 151]) = true := str_eq (l := [195, 151]) h2
    have t13 : (g.toList == [226, 136, 167]) = false := str_ne (l := [226, 136, 167]) (by rw [h2]; decide)
    clear h0 h14 h2
    go_enter Tryd.func16, Tryd.ntmps16
    go_wp2
    go_ret2
    exact ⟨by rw [HU.out]; rfl, rfl⟩
  by_cases h13 : g = dyG 13
  · have HU : Hid (unitN (whichD g) = unitN 13) := Lib.hid (by rw [h13, whichD_at (by decide)])
    have t0 : (g.toList == [43]) = false := str_ne (l := [43]) (by rw [h13]; decide)
    have t14 : (g.toList == [226, 136, 168]) = false := str_ne (l := [226, 136, 168]) (by rw [h13]; decide)
    have t2 : (g.toList == [195, 151]) = false := str_ne (l := [195, 151]) (by rw [h13]; decide)
    have t13 : (g.toList == [226, 136, 167]) = true := str_eq (l := [226, 136, 167]) h13
    clear h0 h14 h2 h13
    go_enter Tryd.func16, Tryd.ntmps16
    go_wp2
    go_ret2
    exact ⟨by rw [HU.out]; rfl, rfl⟩
  have t0 : (g.toList == [43]) = false := str_ne (l := [43]) h0
  have t14 : (g.toList == [226, 136, 168]) = false := str_ne (l := [226, 136, 168]) h14
  have t2 : (g.toList == [195, 151]) = false := str_ne (l := [195, 151]) h2
  have t13 : (g.toList == [226, 136, 167]) = false := str_ne (l := [226, 136, 167]) h13
  have HU : Hid (unitN (whichD g) = (0, false)) := Lib.hid (by
    have hn : ∀ k, k < 15 → g ≠ dyG k → whichD g ≠ k := fun k hk hg e => hg (which_is dyG g 15 0 k e (by omega))
    exact unitN_no (hn 0 (by decide) h0) (hn 2 (by decide) h2) (hn 13 (by decide) h13) (hn 14 (by decide) h14))
  clear h0 h2 h13 h14
  go_enter Tryd.func16, Tryd.ntmps16
  go_wp2
  go_ret2
  exact ⟨by rw [HU.out]; rfl, rfl⟩
end Go.Proofs.YtjafngieohpdaaaDoor.Nu
