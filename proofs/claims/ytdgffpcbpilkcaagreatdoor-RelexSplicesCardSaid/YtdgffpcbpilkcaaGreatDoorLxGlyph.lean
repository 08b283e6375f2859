/- glyph.First, called on any text; the glyph that comes next; a minus. -/
import Derived.Test.YtdgffpcbpilkcaaGreatDoorLxToken
namespace Go.Proofs.YtdgffpcbpilkcaaGreatDoor
open Go Go.RowKit Go.Shelf
attribute [local go_sem] Oper.semAt_some

/-- What First tells: the glyph, or none. -/
def optG : Option Nat → List UInt8
  | some k => gl k
  | none => []

theorem First_c (T : List UInt8) (w : World) (hG : Ground w) :
    Calls Tryz.prog 111 #[.string (bs T)] w fun e W' => e = .returned (.tuple #[.string (bs (optG (firstK T))), .int .i64 ((fsz T : Nat) : Int)]) ∧ Below w.heap.size w W' := by
  have hF := first_c (bs T) w hG
  rw [bs_list] at hF
  obtain ⟨g, d, c, hv, hgd⟩ : ∃ (g d : ByteArray) (c : Int), optV (firstK T) = .agg #[.string g, .string d, .int .i64 c] ∧ g = bs (optG (firstK T)) := by
    cases firstK T with
    | none => exact ⟨⟨#[]⟩, ⟨#[]⟩, 0, rfl, rfl⟩
    | some k => exact ⟨_, _, _, rfl, rfl⟩
  rw [hv] at hF
  rw [← hgd]
  obtain ⟨z, hz⟩ : ∃ z, z = fsz T := ⟨_, rfl⟩
  rw [← hz] at hF ⊢
  have HF := Lib.hid hF
  clear hF hv hgd hz
  go_enter Tryz.func111, Tryz.ntmps111
  go_wp2_with (go_at_call 115; refine HF.out.mono ?_; rintro e w1 ⟨rfl, hb1⟩; have HB1 := Lib.hid hb1; clear hb1)
  exact bodyPost_ret (v := .tuple #[.string g, .int .i64 (z : Int)]) (by simp [results, Tryz.f111, go_sem]) rfl ⟨rfl, HB1.out.alloc HB1.out.size _⟩

theorem glT_eq (T : List UInt8) : glT T = optG (firstK T) := by
  unfold glT optG
  cases firstK T <;> rfl
theorem which_gl : ∀ k, k < 38 → cls (gl k) = cl k := by decide +kernel
theorem cls_glT (T : List UInt8) : cls (glT T) = clsT T := by
  unfold glT clsT
  cases hf : firstK T with
  | none => decide +kernel
  | some k => exact which_gl k (firstK_some.1 hf).1
theorem clsT_le (T : List UInt8) : clsT T ≤ 6 := by
  unfold clsT
  split
  · exact cl_le _
  · omega

/-- nextGlyph(). -/
theorem nextGlyph_c (T : List UInt8) (w : World) (hG : Ground w) :
    Calls Tryz.prog 103 #[.agg #[.string (bs T)]] w fun e W' => e = .returned (.tuple #[.string (bs (glT T)), .int .i64 ((fsz T : Nat) : Int)]) ∧ Below w.heap.size w W' := by
  have hb0 : Below w.heap.size w (w.alloc (.cells #[.string (bs T)] 144)) := (Below.refl _ w).alloc (Nat.le_refl _) _
  have hF := First_c T (w.alloc (.cells #[.string (bs T)] 144)) (hG.below hb0)
  rw [← glT_eq] at hF
  obtain ⟨z, hz⟩ : ∃ z, z = fsz T := ⟨_, rfl⟩
  obtain ⟨g, hg⟩ : ∃ g, g = bs (glT T) := ⟨_, rfl⟩
  rw [← hz, ← hg] at hF ⊢
  have HF := Lib.hid hF
  have HB := Lib.hid hb0
  clear hF hb0 hz hg
  go_enter Tryz.func103, Tryz.ntmps103
  go_wp2_with (go_at_call 111; refine HF.out.mono ?_; rintro e w1 ⟨rfl, hb1⟩; have HB1 := Lib.hid hb1; clear hb1)
  exact bodyPost_ret (v := .tuple #[.string g, .int .i64 (z : Int)]) (by simp [results, Tryz.f103, go_sem]) rfl ⟨rfl, HB.out.trans (HB1.out.mono (by simp))⟩

set_option maxHeartbeats 1000000 in
/-- minus(). -/
theorem minus_c (T : List UInt8) (w : World) (hG : Ground w) :
    Calls Tryz.prog 106 #[.agg #[.string (bs T)]] w fun e W' => e = .returned (.tuple #[.string (bs (mg T)), .int .i64 ((mz T : Nat) : Int)]) ∧ Below w.heap.size w W' := by
  have hb0 : Below w.heap.size w (w.alloc (.cells #[.string (bs T)] 144)) := (Below.refl _ w).alloc (Nat.le_refl _) _
  have hF := nextGlyph_c T (w.alloc (.cells #[.string (bs T)] 144)) (hG.below hb0)
  have hC := fun W h => class_c (glT T) W h
  rw [cls_glT] at hC
  have hG1 := hG.below hb0
  have hr : Row (w.alloc (.cells #[.string (bs T)] 144)) w.heap.size 144 #[.string (bs T)] := Row.new _ _ _
  have hcl := clsT_le T
  obtain ⟨c, hc⟩ : ∃ c, c = clsT T := ⟨_, rfl⟩
  obtain ⟨z, hz⟩ : ∃ z, z = fsz T := ⟨_, rfl⟩
  obtain ⟨g, hg⟩ : ∃ g, g = bs (glT T) := ⟨_, rfl⟩
  obtain ⟨s, hs⟩ : ∃ s, s = bs T := ⟨_, rfl⟩
  rw [← hs] at hF hb0 hG1 hr ⊢
  rw [← hz, ← hg] at hF
  rw [← hg, ← hc] at hC
  rw [← hc] at hcl
  have HF := Lib.hid hF
  have HC := Lib.hid hC
  have HB := Lib.hid hb0
  have HG1 := Lib.hid hG1
  have HS := Lib.hid hs
  by_cases h5 : c = 5
  · have HM : Hid (mz T = z ∧ bs (mg T) = g) := Lib.hid (by unfold mz mg; rw [← hc, if_pos h5, if_pos h5, hz, hg]; exact ⟨rfl, rfl⟩)
    subst h5
    clear hF hC hb0 hz hg hG1 hs hc hr hG
    go_enter Tryz.func106, Tryz.ntmps106
    go_wp2_with (first
      | (go_at_call 103; refine HF.out.mono ?_; rintro e w1 ⟨rfl, hb1⟩; have HB1 := Lib.hid hb1; clear hb1)
      | (go_at_call 104; refine (HC.out _ (HG1.out.below HB1.out)).mono ?_; rintro e w2 ⟨rfl, hb2⟩; have HB2 := Lib.hid hb2; clear hb2))
    rw [HM.out.1, HM.out.2]
    exact bodyPost_ret (v := .tuple #[.string g, .int .i64 (z : Int)]) (by simp [results, Tryz.f106, go_sem]) rfl ⟨rfl, (HB.out.trans (HB1.out.mono (by simp))).trans (HB2.out.mono (by have := HB1.out.size; simp at this; omega))⟩
  · have HM : Hid (mz T = 0 ∧ bs (mg T) = ⟨#[]⟩) := Lib.hid (by unfold mz mg; rw [← hc, if_neg h5, if_neg h5]; exact ⟨rfl, rfl⟩)
    have hne : ((c : Int) != 5) = true := by simp; omega
    clear hF hC hb0 hz hg hG1 hs hc hr hG h5
    go_enter Tryz.func106, Tryz.ntmps106
    go_wp2_with (first
      | (go_at_call 103; refine HF.out.mono ?_; rintro e w1 ⟨rfl, hb1⟩; have HB1 := Lib.hid hb1; clear hb1)
      | (go_at_call 104; refine (HC.out _ (HG1.out.below HB1.out)).mono ?_; rintro e w2 ⟨rfl, hb2⟩; have HB2 := Lib.hid hb2; clear hb2))
    rw [HM.out.1, HM.out.2]
    exact bodyPost_ret (v := .tuple #[.string ⟨#[]⟩, .int .i64 0]) (by simp [results, Tryz.f106, go_sem]) rfl ⟨rfl, (HB.out.trans (HB1.out.mono (by simp))).trans (HB2.out.mono (by have := HB1.out.size; simp at this; omega))⟩

/-- shortest(minus, digits). -/
theorem shortest_c (m d : List UInt8) (hm : m.length ≤ 10000) (hd : d.length ≤ 10000) (w : World) :
    Calls Tryz.prog 108 #[.string (bs m), .string (bs d)] w fun e W' => e = .returned (.string (bs (short m d))) ∧ W' = w := by
  have hT := Tryz.strings_TrimLeft_one (bs d) 48 (by decide) w
  obtain ⟨r, hr⟩ : ∃ r, r = d.dropWhile (· == 48) := ⟨_, rfl⟩
  have e1 : (⟨(Lib.trimLeftB (bs d).data.toList 48).toArray⟩ : ByteArray) = bs r := by rw [hr, bs_list]; rfl
  rw [e1] at hT
  have hrl : r.length ≤ 10000 := by rw [hr]; exact Nat.le_trans (List.dropWhile_suffix _).length_le hd
  have HS : Hid (bs (short m d) = if r = [] then bs [48] else bs m ++ bs r) := Lib.hid (by
    unfold short
    rw [← hr]
    by_cases h : r = []
    · rw [if_pos h, if_pos h]
    · rw [if_neg h, if_neg h]
      apply ByteArray.ext
      simp [bs])
  have HT := Lib.hid hT
  clear hT e1 hr
  by_cases h : r = []
  · subst h
    have hs2 := HS.out
    rw [if_pos rfl] at hs2
    have HS2 := Lib.hid hs2
    clear hs2
    have he : (bs []).toList.isEmpty = true := by decide +kernel
    go_enter Tryz.func108, Tryz.ntmps108
    go_wp2_with (go_at_call 114; refine HT.out.mono ?_; rintro e w1 ⟨rfl, rfl⟩)
    go_ret
    exact ⟨by rw [HS2.out]; rfl, rfl⟩
  · have hs2 := HS.out
    rw [if_neg h] at hs2
    have HS2 := Lib.hid hs2
    have he : (bs r).toList.isEmpty = false := by rw [ByteArray.toList_eq, bs_list]; simpa using h
    obtain ⟨R, hR⟩ : ∃ R, R = bs r := ⟨_, rfl⟩
    obtain ⟨M, hM⟩ : ∃ M, M = bs m := ⟨_, rfl⟩
    have z1 : R.size ≤ 10000 := by rw [hR, bs_size]; exact hrl
    have z2 : M.size ≤ 10000 := by rw [hM, bs_size]; exact hm
    rw [← hR] at HT HS2 he
    rw [← hM] at HS2 ⊢
    clear hs2 hR hM h hrl hm
    go_enter Tryz.func108, Tryz.ntmps108
    go_wp2_with (go_at_call 114; refine HT.out.mono ?_; rintro e w1 ⟨rfl, rfl⟩)
    go_ret
    exact ⟨by rw [HS2.out]; rfl, rfl⟩
end Go.Proofs.YtdgffpcbpilkcaaGreatDoor
