/- The plain All, Texts. -/
import Derived.Test.YtldffmnmofmkaaaDoorGlPlainF
import Derived.Test.YtldffmnmofmkaaaDoorGlAll
import Derived.Deep.AppendLies
namespace Go.Proofs.YtldffmnmofmkaaaDoor
open Go Go.RowKit

/-- The first k glyphs. -/
def glyphsTo (k : Nat) : List Value := (List.range k).map fun j => .string (bs (gl j))
theorem glyphsTo_succ (k : Nat) : glyphsTo (k + 1) = glyphsTo k ++ [.string (bs (gl k))] := by
  unfold glyphsTo
  rw [List.range_succ, List.map_append]
  rfl
theorem glyphsTo_len (k : Nat) : (glyphsTo k).length = k := by simp [glyphsTo]

theorem own_cells {W : World} {base g len cap n : Nat} {e : TypeId} {xs : List Value} (h : W.ownsRow base e 1 (.slice (some ⟨g, 0, none⟩) len cap) n xs) : base ≤ g ∧ g < W.heap.size ∧ len = n ∧ len ≤ cap ∧ cap ≤ maxLen ∧ ∀ j u, xs[j]? = some u → W.cell? ⟨g, j, none⟩ = some u := by
  rcases h.2 with ⟨h0, _⟩ | ⟨g', cap', cur, q1, q2, q3, q4, q5, q6, q7⟩
  · cases h0
  · cases q1
    have hr : Row W g e cur := q3
    refine ⟨q2, hr.lt, rfl, q4, q5, fun j u hu => ?_⟩
    rw [hr.cell]
    rw [← q7, List.getElem?_take] at hu
    split at hu
    · simpa using hu
    · cases hu

set_option maxRecDepth 100000 in
set_option maxHeartbeats 4000000 in
theorem rall_c (w : World) :
    Calls Tryd.prog 17 #[] w fun e W' => ∃ g cap, e = .returned (.slice (some ⟨g, 0, none⟩) 38 cap) ∧ (∀ k, k < 38 → W'.cell? ⟨g, k, none⟩ = some (.string (bs (gl k)))) ∧ w.heap.size ≤ g ∧ g < W'.heap.size ∧ 38 ≤ cap ∧ cap ≤ maxLen ∧ Below w.heap.size w W' := by
  obtain ⟨i0, hi, hz0, hz1, hz2⟩ := info_parts' Tryd.infoStr
  go_enter Tryd.func17, Tryd.ntmps17
  go_wp2_with (go_at_call 25; refine (table_d _).mono ?_; rintro e w1 ⟨b, rfl, r0, hbg, hb, hB⟩; have HB := Lib.hid hB; have R0 := Lib.hid r0; clear hB r0)
  go_loopw [1, 3] (fun u i wr => ∃ k : Nat, k ≤ 38 ∧ i = .int .i64 k ∧ wr.ownsRow w1.heap.size 9 1 u k (glyphsTo k) ∧ Below w1.heap.size w1 wr)
    (fun _ i _ => 38 - (intOf i).toNat)
  case atStart => exact ⟨0, Nat.zero_le _, rfl, World.ownsRow_nil _ _ _ _, Below.refl _ _⟩
  case round =>
    obtain ⟨k, hk, rfl, hown, hB1⟩ := hrel
    have HO := Lib.hid hown
    have HB1 := Lib.hid hB1
    have hbs := hB1.size
    have r1 := R0.out.below hB1 hb
    clear hown hB1
    by_cases hlt : k < 38
    · obtain ⟨c1, c2, c3⟩ := r1.at k hlt
      obtain ⟨g, hgd⟩ : ∃ g, g = bs (gl k) := ⟨_, rfl⟩
      rw [← hgd] at c1
      have HGD := Lib.hid hgd
      have HC1 : Hid (∀ (j : Nat) (u : Value), [Value.string g][j]? = some u → (wr.alloc (.cells #[.string g] 9)).cell? ((⟨wr.heap.size, 0, none⟩ : Addr).add j) = some u) := Lib.hid (cell_one_new _ _ _)
      have HC2 : Hid (∀ u ∈ [Value.string g], u.oneCell' = true) := Lib.hid (by simp [Value.oneCell'])
      have H3 : Hid (k + 1 ≤ maxLen ∧ (k + 1) * 16 ≤ 140737488355328) := Lib.hid ⟨by unfold maxLen; omega, by omega⟩
      have H5 : Hid (w1.heap.size ≤ (wr.alloc (.cells #[.string g] 9)).heap.size) := Lib.hid (by rw [World.size_alloc]; omega)
      clear r1 hgd
      go_wp2_with (at_builtin; refine wpList_append_lies _ rfl (.tmp 11) (.tmp 17) 29 rfl w1.heap.size 9 i0 (.string ⟨#[]⟩) 1 16 Tryd.underlying29 hi hz0 hz1 hz2 rfl (by decide) u1 _ _ rfl (HO.out.alloc _) ⟨wr.heap.size, 0, none⟩ 1 1 [.string g] rfl rfl HC1.out HC2.out (by decide) H3.out.1 H3.out.2 H5.out _ rfl ?_; intro g2 cap w2 hown' hgrow hat hlt1; have HG := Lib.hid hgrow; have HO1 := Lib.hid hown'; clear hown' hgrow hat hlt1)
      have hlt2 := HO.out.lt
      have h9 : Below w1.heap.size w1 w2 := (HB1.out.alloc hbs _).grown HG.out H5.out (fun j ej => (hlt2 j ej).1)
      have HN : Hid (w2.ownsRow w1.heap.size 9 1 (.slice (some ⟨g2, 0, none⟩) (k + 1) cap) (k + 1) (glyphsTo (k + 1)) ∧ Below w1.heap.size w1 w2) := Lib.hid ⟨by rw [glyphsTo_succ, ← HGD.out]; exact HO1.out, h9⟩
      clear h9 hlt2 HC1 HC2 H3 H5 HG HO1 HO HB1
      go_wp2
      go_roundw
      case rel => exact ⟨k + 1, by omega, by go_num, HN.out.1, HN.out.2⟩
      case measure => simp [intOf]; omega
    · obtain rfl : k = 38 := by omega
      clear r1
      go_wp2
      go_ret
      rcases HO.out.2 with ⟨_, h0⟩ | ⟨g, cap, cur, q1, _⟩
      · cases h0
      · have ho := HO.out
        rw [q1] at ho
        obtain ⟨h1, h2, _, h4, h5, h6⟩ := own_cells ho
        refine ⟨g, cap, by rw [← q1]; rfl, fun k hk => h6 k _ (by simp [glyphsTo, hk]), ?_, h2, h4, h5, HB.out.trans (HB1.out.mono HB.out.size)⟩
        have := HB.out.size
        omega

set_option maxRecDepth 100000 in
set_option maxHeartbeats 4000000 in
theorem texts_c (b g c1 c2 : Nat) (w : World) (hb : ∀ k, k < 38 → w.cell? ⟨b, k, none⟩ = some (.string (bs (gl k)))) (hg : ∀ k, k < 38 → w.cell? ⟨g, k, none⟩ = some (.string (bs (gl k)))) :
    Calls Tryd.prog 15 #[.slice (some ⟨b, 0, none⟩) 38 c1, .slice (some ⟨g, 0, none⟩) 38 c2] w fun e W' => e = .returned (.bool true) ∧ Below w.heap.size w W' := by
  have HHB := Lib.hid hb
  have HHG := Lib.hid hg
  clear hb hg
  go_enter Tryd.func15, Tryd.ntmps15
  go_wp2
  go_loopw [5] (fun i wr => ∃ k : Nat, k ≤ 38 ∧ i = .int .i64 k ∧ Below w.heap.size w wr ∧ (∀ k, k < 38 → wr.cell? ⟨b, k, none⟩ = some (.string (bs (gl k)))) ∧ (∀ k, k < 38 → wr.cell? ⟨g, k, none⟩ = some (.string (bs (gl k))))) (fun i _ => 38 - (intOf i).toNat)
  case atStart => exact ⟨0, Nat.zero_le _, rfl, Below.refl _ _, HHB.out, HHG.out⟩
  case round =>
    obtain ⟨k, hk, rfl, hB, hb, hg⟩ := hrel
    have HB := Lib.hid hB
    have HHB := Lib.hid hb
    have HHG := Lib.hid hg
    clear hB
    by_cases hlt : k < 38
    · have c1 := hb k hlt
      have c2 := hg k hlt
      obtain ⟨x, hx⟩ : ∃ x, x = bs (gl k) := ⟨_, rfl⟩
      rw [← hx] at c1 c2
      clear hx hb hg
      go_wp2
      go_quiet (fail)
      go_wp2
      go_roundw
      case rel => exact ⟨k + 1, by omega, by go_num, below_dn HB.out _, HHB.out, HHG.out⟩
      case measure => simp [intOf]; omega
    · obtain rfl : k = 38 := by omega
      clear hb hg
      go_wp2
      go_ret
      exact ⟨rfl, HB.out⟩
end Go.Proofs.YtldffmnmofmkaaaDoor
