/- The plain answers of place: Width. -/
import Derived.Test.YtaahhilnkffdlaaDoorPlCols
import Derived.Test.YtaahhilnkffdlaaDoorPgUse
namespace Go.Proofs.YtaahhilnkffdlaaDoor
open Go Go.RowKit

/-- The columns of a line, cell by cell. -/
theorem rcols_line (s : ByteArray) (hs : s.size ≤ 600) (k a b R : Nat) (u : Int) (ha : a = lineAt s.data.toList k) (hb : b = lineEnd s.data.toList k) (hR : R = rnds (lineT s.data.toList k) u) (w : World) :
    Calls Tryd.prog 31 #[.string (s.extract a b), .int .i64 u] w fun e W' => ∃ ga ca gc cc, e = .returned (.tuple #[.slice (some ⟨ga, 0, none⟩) (R + 1) ca, .slice (some ⟨gc, 0, none⟩) (R + 1) cc]) ∧ R ≤ 600 ∧ ga < W'.heap.size ∧ gc < W'.heap.size ∧
      (∀ j, j ≤ R → W'.cell? ⟨ga, j, none⟩ = some (.int .i64 ((posK (lineT s.data.toList k) u j : Nat) : Int))) ∧ (∀ j, j ≤ R → W'.cell? ⟨gc, j, none⟩ = some (.int .i64 ((colK (lineT s.data.toList k) u j : Nat) : Int))) ∧ Below w.heap.size w W' := by
  have hbs : b ≤ s.size := by rw [hb, Lib.size_eq]; exact lineEnd_le _ _
  have hT := lineT_ext s k a b ha hb
  refine (rcols w (s.extract a b) u (by rw [ByteArray.size_extract]; omega)).mono ?_
  rintro e w' ⟨r, va, vc, rfl, h1, h2, h3, h4, h5, h6⟩
  rw [← hT] at h1 h2 h4 h5
  have hr : r = R := by
    rw [hR]
    have hsz : (s.extract a b).size = (lineT s.data.toList k).length := by rw [hT, Lib.size_eq]
    exact rnds_of (by rw [h1, hsz]) (fun q hq => by rw [← hsz]; exact h2 q hq)
  subst hr
  obtain ⟨ga, ca, rfl, _, hga, hca⟩ := own_form h4 (by rw [lst_len]; omega)
  obtain ⟨gc, cc, rfl, _, hgc, hcc⟩ := own_form h5 (by rw [lst_len]; omega)
  rw [lst_len] at hca hcc
  refine ⟨ga, ca, gc, cc, by rw [lst_len, lst_len], h3, hga, hgc, fun j hj => ?_, fun j hj => ?_, h6⟩
  · rw [hca j (by omega), lst_get _ _ _ hj]
  · rw [hcc j (by omega), lst_get _ _ _ hj]

theorem rline_at (s : ByteArray) (hs : s.size ≤ 600) (k a b : Nat) (hk : k < nlines s.data.toList) (ha : a = lineAt s.data.toList k) (hb : b = lineEnd s.data.toList k) (w : World) :
    Calls Tryd.prog 13 #[.string s, .int .i64 (k : Int)] w fun e W' => e = .returned (.tuple #[.string (s.extract a b), .int .i64 0]) ∧ Below w.heap.size w W' := by
  subst ha
  subst hb
  exact rline_ok w s k hs (by rw [Lib.size_eq]; exact hk)
theorem rline_none (s : ByteArray) (hs : s.size ≤ 600) (n : Int) (hn : n < 0 ∨ (nlines s.data.toList : Int) ≤ n) (w : World) :
    Calls Tryd.prog 13 #[.string s, .int .i64 n] w fun e W' => e = .returned (.tuple #[.string ⟨#[]⟩, .int .i64 20]) ∧ Below w.heap.size w W' :=
  rline_no w s n hs (by rw [Lib.size_eq]; exact hn)

set_option maxHeartbeats 2000000 in
set_option maxRecDepth 100000 in
theorem rwid_c (s : ByteArray) (hs : s.size ≤ 600) (n u : Int) (w : World) :
    Calls Tryd.prog 15 #[.string s, .int .i64 n, .int .i64 u] w fun e W' => (∃ v, e = .returned v ∧ WidOut s.data.toList n u v) ∧ Below w.heap.size w W' := by
  by_cases hu : isUnit u = true
  · have HI : ∀ w, Hid (Calls Tryd.prog 30 #[.int .i64 u] w fun e W' => e = .returned (.bool true) ∧ w = W') := fun w => Lib.hid (by have := ris w u; rw [hu] at this; exact this)
    by_cases hn : 0 ≤ n ∧ n < (nlines s.data.toList : Int)
    · obtain ⟨k, rfl⟩ : ∃ k : Nat, n = (k : Int) := ⟨n.toNat, by omega⟩
      have hk : k < nlines s.data.toList := by omega
      obtain ⟨a, ha⟩ : ∃ a, a = lineAt s.data.toList k := ⟨_, rfl⟩
      obtain ⟨b, hb⟩ : ∃ b, b = lineEnd s.data.toList k := ⟨_, rfl⟩
      obtain ⟨R, hR⟩ : ∃ R, R = rnds (lineT s.data.toList k) u := ⟨_, rfl⟩
      obtain ⟨c, hc⟩ : ∃ c, c = colK (lineT s.data.toList k) u R := ⟨_, rfl⟩
      have HL := fun w => Lib.hid (rline_at s hs k a b hk ha hb w)
      have HC := fun w => Lib.hid (rcols_line s hs k a b R u ha hb hR w)
      have HE : Hid (WidOut s.data.toList (k : Int) u (.tuple #[.int .i64 (c : Int), .int .i64 0])) := Lib.hid (.inr ⟨hu, .inl ⟨k, rfl, hk, by rw [hc, hR]⟩⟩)
      have HCC := Lib.hid hc
      clear hn ha hb hR hu hk hc
      go_enter Tryd.func15, Tryd.ntmps15
      go_wp2_with fail
      refine (HI _).out.mono ?_
      rintro e w0 ⟨rfl, rfl⟩
      go_wp2_with fail
      refine (HL _).out.mono ?_
      rintro e w1 ⟨rfl, hb1⟩
      have HB1 := Lib.hid hb1
      clear hb1
      go_wp2_with fail
      refine (HC _).out.mono ?_
      rintro e w2 ⟨ga, ca, gc, cc, rfl, hR6, _, _, _, h5, hb2⟩
      have HB2 := Lib.hid (HB1.out.trans (hb2.mono HB1.out.size))
      have d := h5 R (Nat.le_refl _)
      rw [← HCC.out] at d
      clear h5 hb2
      go_wp2
      go_ret2
      exact ⟨⟨_, rfl, HE.out⟩, HB2.out⟩
    · have HL := fun w => Lib.hid (rline_none s hs n (by omega) w)
      have HE : Hid (WidOut s.data.toList n u (.tuple #[.int .i64 0, .int .i64 20])) := Lib.hid (.inr ⟨hu, .inr ⟨fun k e hlt => by omega, rfl⟩⟩)
      clear hn hu
      go_enter Tryd.func15, Tryd.ntmps15
      go_wp2_with fail
      refine (HI _).out.mono ?_
      rintro e w0 ⟨rfl, rfl⟩
      go_wp2_with fail
      refine (HL _).out.mono ?_
      rintro e w1 ⟨rfl, hb1⟩
      have HB1 := Lib.hid hb1
      clear hb1
      go_wp2
      go_ret2
      exact ⟨⟨_, rfl, HE.out⟩, HB1.out⟩
  · have hu' : isUnit u = false := by simpa using hu
    have HI : ∀ w, Hid (Calls Tryd.prog 30 #[.int .i64 u] w fun e W' => e = .returned (.bool false) ∧ w = W') := fun w => Lib.hid (by have := ris w u; rw [hu'] at this; exact this)
    have HE : Hid (WidOut s.data.toList n u (.tuple #[.int .i64 0, .int .i64 2])) := Lib.hid (.inl ⟨hu', rfl⟩)
    have HB := Lib.hid (Below.refl w.heap.size w)
    clear hu hu'
    go_enter Tryd.func15, Tryd.ntmps15
    go_wp2_with fail
    refine (HI _).out.mono ?_
    rintro e w0 ⟨rfl, rfl⟩
    go_wp2
    go_ret2
    exact ⟨⟨_, rfl, HE.out⟩, HB.out⟩
end Go.Proofs.YtaahhilnkffdlaaDoor
