/- Plain answers: does a text begin with another one; a glyph's class, its digraph. -/
import Derived.Test.YtldffmnmofmkaaaDoorGlTab
import Derived.Test.YtldffmnmofmkaaaDoorGlDig
namespace Go.Proofs.YtldffmnmofmkaaaDoor
open Go Go.RowKit

set_option maxRecDepth 100000 in
theorem begins_c (T p : List UInt8) (hT : T.length ≤ 10000) (w : World) :
    Calls Tryd.prog 27 #[.string (bs T), .string (bs p)] w fun e W' => e = .returned (.bool (Lib.hasPrefix T p)) ∧ W' = w := by
  have e0 : ((bs T).extract 0 (bs p).size) = bs (T.take p.length) := by
    apply ByteArray.ext
    apply Array.ext'
    rw [bs_size, ByteArray.data_extract, Array.toList_extract]
    simp [bs, List.extract]
  have ht := bs_size T
  have hpz := bs_size p
  by_cases hl : p.length ≤ T.length
  · have hb : (((bs T).extract 0 (bs p).size).toList == (bs p).toList) = Lib.hasPrefix T p := by
      rw [e0, eqb_bs, Bool.eq_iff_iff, beq_iff_eq]
      constructor
      · intro h
        exact List.isPrefixOf_iff_prefix.2 ⟨T.drop p.length, by rw [← h, List.length_take, Nat.min_eq_left hl, List.take_append_drop]⟩
      · intro h
        obtain ⟨Z, rfl⟩ := List.isPrefixOf_iff_prefix.1 h
        rw [List.take_left]
    have hle : (bs p).size ≤ (bs T).size := by omega
    obtain ⟨t, htd⟩ : ∃ t, t = bs T := ⟨_, rfl⟩
    obtain ⟨q, hqd⟩ : ∃ q, q = bs p := ⟨_, rfl⟩
    rw [← htd, ← hqd] at hb hle ⊢
    rw [← htd] at ht
    rw [← hqd] at hpz
    have HB := Lib.hid hb
    clear hb e0 htd hqd
    go_enter Tryd.func27, Tryd.ntmps27
    go_wp2
    go_ret
    exact ⟨by rw [← HB.out, hpz]; rfl, rfl⟩
  · have hb : Lib.hasPrefix T p = false := by
      rw [Bool.eq_false_iff]
      intro h
      exact hl (List.isPrefixOf_iff_prefix.1 h).length_le
    have hle : ¬ (bs p).size ≤ (bs T).size := by omega
    rw [hb]
    obtain ⟨t, htd⟩ : ∃ t, t = bs T := ⟨_, rfl⟩
    obtain ⟨q, hqd⟩ : ∃ q, q = bs p := ⟨_, rfl⟩
    rw [← htd, ← hqd] at hle ⊢
    rw [← htd] at ht
    rw [← hqd] at hpz
    clear hb e0 htd hqd
    go_enter Tryd.func27, Tryd.ntmps27
    go_wp2
    go_ret
    exact ⟨rfl, rfl⟩

theorem RTab.below {W W' : World} {b n : Nat} (h : RTab W b) (hb : Below n W W') (hn : b < n) : RTab W' b := Row.below h hb hn

theorem cls_gl' : ∀ k, k < 38 → cls (gl k) = cl k := by decide +kernel
/-- How a text that is a glyph is typed. -/
def dig' (g : List UInt8) : List UInt8 := dig g
theorem dig_none {g : List UInt8} (h : ∀ j, j < 38 → ¬ (gl j = g ∧ di j ≠ [])) : dig' g = [] := by
  unfold dig' dig
  cases hw : which g with
  | none => rfl
  | some k =>
    obtain ⟨h1, h2, _⟩ := which_some.1 hw
    exact Classical.byContradiction fun hd => h k h1 ⟨h2, hd⟩
theorem le_ne : ∀ k, k < 38 → di k ≠ [] → (bs (le k)).toList.isEmpty = false := by decide +kernel
theorem bs_app' (a b : List UInt8) : bs a ++ bs b = bs (a ++ b) := by
  apply ByteArray.ext
  apply Array.ext'
  rw [ByteArray.data_append, Array.toList_append]
  simp [bs]
theorem table_d (w : World) :
    Calls Tryd.prog 25 #[] w fun e W' => ∃ b, e = .returned (.slice (some ⟨b, 0, none⟩) 38 38) ∧ RTab W' b ∧ w.heap.size ≤ b ∧ b < W'.heap.size ∧ Below w.heap.size w W' := by
  refine (table_c w).mono ?_
  rintro e w' ⟨rfl, rfl⟩
  exact ⟨w.heap.size, rfl, Row.new w _ _, Nat.le_refl _, by simp, (Below.refl _ w).alloc (Nat.le_refl _) _⟩

set_option maxRecDepth 100000 in
set_option maxHeartbeats 4000000 in
/-- The plain Class. -/
theorem rclass_c (T : List UInt8) (w : World) :
    Calls Tryd.prog 19 #[.string (bs T)] w fun e W' => e = .returned (.int .i64 ((cls T : Nat) : Int)) ∧ Below w.heap.size w W' := by
  obtain ⟨s, hs⟩ : ∃ s, s = bs T := ⟨_, rfl⟩
  have heq : ∀ k, ((bs (gl k)).toList == s.toList) = (gl k == T) := fun k => by rw [hs, eqb_bs]
  rw [← hs]
  have HE := Lib.hid heq
  clear hs heq
  go_enter Tryd.func19, Tryd.ntmps19
  go_wp2_with (go_at_call 25; refine (table_d _).mono ?_; rintro e w1 ⟨b, rfl, r0, hbg, hb, hB⟩; have HB := Lib.hid hB; clear hB)
  go_loopw [4] (fun i wr => ∃ k : Nat, k ≤ 38 ∧ i = .int .i64 k ∧ wr = w1 ∧ (∀ j, j < k → gl j ≠ T))
    (fun i _ => 38 - (intOf i).toNat)
  case atStart => exact ⟨0, Nat.zero_le _, rfl, rfl, fun j hj => by omega⟩
  case round =>
    obtain ⟨k, hk, rfl, rfl, hn⟩ := hrel
    by_cases hlt : k < 38
    · obtain ⟨c1, c2, c3⟩ := r0.at k hlt
      have hc := HE.out k
      have HN := Lib.hid hn
      have HC3 : Hid (∀ c : Int, c = ((cl k : Nat) : Int) → gl k = T → c = ((cls T : Nat) : Int)) := Lib.hid (fun c e h => by rw [e, ← h, cls_gl' k hlt])
      obtain ⟨c, hcd⟩ : ∃ c : Int, c = ((cl k : Nat) : Int) := ⟨_, rfl⟩
      rw [← hcd] at c3
      have HCD := Lib.hid hcd
      obtain ⟨g, hgd⟩ : ∃ g, g = bs (gl k) := ⟨_, rfl⟩
      rw [← hgd] at c1 hc
      clear hn hcd hgd
      cases ht : (gl k == T) with
      | true =>
        rw [ht] at hc
        have HT : Hid (gl k = T) := Lib.hid (by simpa using ht)
        clear ht
        go_wp2
        go_ret
        exact ⟨by rw [← HC3.out c HCD.out HT.out]; rfl, HB.out⟩
      | false =>
        rw [ht] at hc
        have HT : Hid (gl k ≠ T) := Lib.hid (by simpa using ht)
        clear ht
        go_wp2
        go_roundw
        case rel => exact ⟨k + 1, by omega, by go_num, trivial, fun j hj => by
          rcases Nat.lt_or_ge j k with h1 | h1
          · exact HN.out j h1
          · obtain rfl : j = k := by omega
            exact HT.out⟩
        case measure => simp [intOf]; omega
    · obtain rfl : k = 38 := by omega
      have HL : Hid (cls T = 0) := Lib.hid (by unfold cls; rw [which_none.2 hn])
      clear hn
      go_wp2
      go_ret
      exact ⟨by rw [HL.out]; rfl, HB.out⟩

/-- A glyph that can be typed, and how. -/
theorem dig_hit : ∀ k, k < 38 → dig' (gl k) = di k := by decide +kernel

set_option maxRecDepth 100000 in
set_option maxHeartbeats 4000000 in
/-- The plain Digraph. -/
theorem rdig_c (T : List UInt8) (w : World) :
    Calls Tryd.prog 12 #[.string (bs T)] w fun e W' => e = .returned (.tuple #[.string (bs (dig' T)), .bool !(dig' T).isEmpty]) ∧ Below w.heap.size w W' := by
  obtain ⟨s, hs⟩ : ∃ s, s = bs T := ⟨_, rfl⟩
  have heq : ∀ k, ((bs (gl k)).toList == s.toList) = (gl k == T) := fun k => by rw [hs, eqb_bs]
  rw [← hs]
  have HE := Lib.hid heq
  clear hs heq
  go_enter Tryd.func12, Tryd.ntmps12
  go_wp2_with (go_at_call 25; refine (table_d _).mono ?_; rintro e w1 ⟨b, rfl, r0, hbg, hb, hB⟩; have HB := Lib.hid hB; clear hB)
  go_loopw [5] (fun i wr => ∃ k : Nat, k ≤ 38 ∧ i = .int .i64 k ∧ wr = w1 ∧ (∀ j, j < k → ¬ (gl j = T ∧ di j ≠ [])))
    (fun i _ => 38 - (intOf i).toNat)
  case atStart => exact ⟨0, Nat.zero_le _, rfl, rfl, fun j hj => by omega⟩
  case round =>
    obtain ⟨k, hk, rfl, rfl, hn⟩ := hrel
    by_cases hlt : k < 38
    · obtain ⟨c1, c2, c3⟩ := r0.at k hlt
      have hc := HE.out k
      have HN := Lib.hid hn
      obtain ⟨g, hgd⟩ : ∃ g, g = bs (gl k) := ⟨_, rfl⟩
      obtain ⟨l, hld⟩ : ∃ l, l = bs (le k) := ⟨_, rfl⟩
      have hl1 : l.size ≤ 1 := by rw [hld, bs_size]; unfold le; rw [List.length_drop]; have := di_len k hlt; omega
      rw [← hgd] at c1 hc
      rw [← hld] at c2
      have HLD := Lib.hid hld
      clear hn hgd hld
      cases ht : (gl k == T) with
      | true =>
        rw [ht] at hc
        have HT : Hid (gl k = T) := Lib.hid (by simpa using ht)
        clear ht
        by_cases hd : di k = []
        · have hle : l.toList.isEmpty = true := by rw [HLD.out, show le k = [] by unfold le; rw [hd]; rfl]; decide +kernel
          have HT2 : Hid (¬ (gl k = T ∧ di k ≠ [])) := Lib.hid (fun h => h.2 hd)
          clear hd
          go_wp2
          go_roundw
          case rel => exact ⟨k + 1, by omega, by go_num, trivial, fun j hj => by
            rcases Nat.lt_or_ge j k with h1 | h1
            · exact HN.out j h1
            · obtain rfl : j = k := by omega
              exact HT2.out⟩
          case measure => simp [intOf]; omega
        · have hle : l.toList.isEmpty = false := by rw [HLD.out]; exact le_ne k hlt hd
          have HR : Hid (dig' T = di k ∧ (di k).isEmpty = false ∧ ⟨#[96]⟩ ++ l = bs (di k)) := Lib.hid ⟨by rw [← HT.out, dig_hit k hlt], by simpa using hd, by
            rw [HLD.out, ← le_di k hlt hd]
            have : (⟨#[96]⟩ : ByteArray) = bs [96] := rfl
            rw [this, bs_app']
            rfl⟩
          clear hd
          go_wp2
          refine bodyPost_ret (v := .tuple #[.string (⟨#[96]⟩ ++ l), .bool true]) (by simp [results, Tryd.f12, go_sem]) rfl ⟨by rw [HR.out.1, HR.out.2.1, ← HR.out.2.2]; rfl, HB.out⟩
      | false =>
        rw [ht] at hc
        have HT : Hid (gl k ≠ T) := Lib.hid (by simpa using ht)
        clear ht
        go_wp2
        go_roundw
        case rel => exact ⟨k + 1, by omega, by go_num, trivial, fun j hj => by
          rcases Nat.lt_or_ge j k with h1 | h1
          · exact HN.out j h1
          · obtain rfl : j = k := by omega
            exact fun h => HT.out h.1⟩
        case measure => simp [intOf]; omega
    · obtain rfl : k = 38 := by omega
      have HL : Hid (dig' T = []) := Lib.hid (dig_none hn)
      clear hn
      go_wp2
      refine bodyPost_ret (v := .tuple #[.string ⟨#[]⟩, .bool false]) (by simp [results, Tryd.f12, go_sem]) rfl ⟨by rw [HL.out]; rfl, HB.out⟩
end Go.Proofs.YtldffmnmofmkaaaDoor
