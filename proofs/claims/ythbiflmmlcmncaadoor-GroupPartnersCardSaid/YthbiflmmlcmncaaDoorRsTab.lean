/- The plain answers: which sign a text begins with, a class (by wip/gen/rs_base.py). -/
import Derived.Test.YthbiflmmlcmncaaDoorRsBase
import Derived.BigQuiet
namespace Go.Proofs.YthbiflmmlcmncaaDoor
namespace Rs
open Go Go.RowKit
/-- A digraph's letter. -/
def le (k : Nat) : List UInt8 := (di k).drop 1
theorem le_empty : ∀ k, k < 38 → (le k).isEmpty = (di k).isEmpty := by decide +kernel
theorem le_di : ∀ k, k < 38 → di k ≠ [] → 96 :: le k = di k := by decide +kernel
/-- The table's cells. -/
def tabCells : Array Value := ((List.range 38).flatMap fun k => [Value.string (bs (gl k)), Value.string (bs (le k)), Value.int .i64 ((cl k : Nat) : Int)]).toArray
/-- THE TABLE LIES in block b. -/
def RTab (W : World) (b : Nat) : Prop := Row W b 112 tabCells
theorem cells_len : ∀ n : Nat, ((List.range n).flatMap fun k => [Value.string (bs (gl k)), Value.string (bs (le k)), Value.int .i64 ((cl k : Nat) : Int)]).length = n * 3
  | 0 => rfl
  | n + 1 => by
    rw [List.range_succ, List.flatMap_append, List.length_append, cells_len n]
    simp
    omega
theorem tabCells_at : ∀ k, k < 38 → tabCells[k * 3]? = some (.string (bs (gl k))) ∧ tabCells[k * 3 + 1]? = some (.string (bs (le k))) ∧ tabCells[k * 3 + 2]? = some (.int .i64 ((cl k : Nat) : Int)) := by
  intro k hk
  have h : ∀ (n k : Nat), k < n → ((List.range n).flatMap fun k => [Value.string (bs (gl k)), Value.string (bs (le k)), Value.int .i64 ((cl k : Nat) : Int)])[k * 3]? = some (.string (bs (gl k))) ∧ ((List.range n).flatMap fun k => [Value.string (bs (gl k)), Value.string (bs (le k)), Value.int .i64 ((cl k : Nat) : Int)])[k * 3 + 1]? = some (.string (bs (le k))) ∧ ((List.range n).flatMap fun k => [Value.string (bs (gl k)), Value.string (bs (le k)), Value.int .i64 ((cl k : Nat) : Int)])[k * 3 + 2]? = some (.int .i64 ((cl k : Nat) : Int)) ∧ ((List.range n).flatMap fun k => [Value.string (bs (gl k)), Value.string (bs (le k)), Value.int .i64 ((cl k : Nat) : Int)]).length = n * 3 := by
    intro n
    induction n with
    | zero => intro k hk; omega
    | succ n ih =>
      intro k hk
      have hl := cells_len n
      rw [List.range_succ, List.flatMap_append, List.length_append, hl]
      rcases Nat.lt_or_ge k n with h1 | h1
      · obtain ⟨a1, a2, a3, _⟩ := ih k h1
        rw [List.getElem?_append_left (by omega), List.getElem?_append_left (by omega), List.getElem?_append_left (by omega)]
        exact ⟨a1, a2, a3, by simp; omega⟩
      · obtain rfl : k = n := by omega
        rw [List.getElem?_append_right (by omega), List.getElem?_append_right (by omega), List.getElem?_append_right (by omega), hl]
        refine ⟨by simp, by simp, by simp, by simp; omega⟩
  obtain ⟨a1, a2, a3, _⟩ := h 38 k hk
  unfold tabCells
  simp only [List.getElem?_toArray]
  exact ⟨a1, a2, a3⟩
theorem RTab.at {W : World} {b : Nat} (h : RTab W b) (k : Nat) (hk : k < 38) : W.cell? ⟨b, k * 3, none⟩ = some (.string (bs (gl k))) ∧ W.cell? ⟨b, k * 3 + 1, none⟩ = some (.string (bs (le k))) ∧ W.cell? ⟨b, k * 3 + 2, none⟩ = some (.int .i64 ((cl k : Nat) : Int)) := by
  obtain ⟨a1, a2, a3⟩ := tabCells_at k hk
  have h' : Row W b 112 tabCells := h
  exact ⟨(h'.cell _).trans a1, (h'.cell _).trans a2, (h'.cell _).trans a3⟩
set_option maxRecDepth 100000 in
set_option maxHeartbeats 4000000 in
theorem table_c (w : World) :
    Calls Tryd.prog 65 #[] w fun e W' => e = .returned (.slice (some ⟨w.heap.size, 0, none⟩) 38 38) ∧ W' = w.alloc (.cells tabCells 112) := by
  go_enter Tryd.func65, Tryd.ntmps65
  go_wp2
  go_ret
  exact ⟨rfl, by kernel_rfl⟩
set_option maxRecDepth 100000 in
theorem begins_c (T p : List UInt8) (hT : T.length ≤ 10000) (w : World) :
    Calls Tryd.prog 66 #[.string (bs T), .string (bs p)] w fun e W' => e = .returned (.bool (Lib.hasPrefix T p)) ∧ W' = w := by
  have e0 : ((bs T).extract 0 (bs p).size) = bs (T.take p.length) := by
    apply ByteArray.ext
    apply Array.ext'
    rw [bs_size, ByteArray.data_extract, Array.toList_extract]
    simp [bs, List.extract]
  have ht := bs_size T
  have hpz := bs_size p
  by_cases hl : p.length ≤ T.length
  · have hb : (((bs T).extract 0 (bs p).size).toList == (bs p).toList) = Lib.hasPrefix T p := by
      rw [e0, eqb_bs, Bool.eq_iff_iff, beq_iff_eq]
      constructor
      · intro h
        exact List.isPrefixOf_iff_prefix.2 ⟨T.drop p.length, by rw [← h, List.length_take, Nat.min_eq_left hl, List.take_append_drop]⟩
      · intro h
        obtain ⟨Z, rfl⟩ := List.isPrefixOf_iff_prefix.1 h
        rw [List.take_left]
    have hle : (bs p).size ≤ (bs T).size := by omega
    obtain ⟨t, htd⟩ : ∃ t, t = bs T := ⟨_, rfl⟩
    obtain ⟨q, hqd⟩ : ∃ q, q = bs p := ⟨_, rfl⟩
    rw [← htd, ← hqd] at hb hle ⊢
    rw [← htd] at ht
    rw [← hqd] at hpz
    have HB := Lib.hid hb
    clear hb e0 htd hqd
    go_enter Tryd.func66, Tryd.ntmps66
    go_wp2
    go_ret
    exact ⟨by rw [← HB.out, hpz]; rfl, rfl⟩
  · have hb : Lib.hasPrefix T p = false := by
      rw [Bool.eq_false_iff]
      intro h
      exact hl (List.isPrefixOf_iff_prefix.1 h).length_le
    have hle : ¬ (bs p).size ≤ (bs T).size := by omega
    rw [hb]
    obtain ⟨t, htd⟩ : ∃ t, t = bs T := ⟨_, rfl⟩
    obtain ⟨q, hqd⟩ : ∃ q, q = bs p := ⟨_, rfl⟩
    rw [← htd, ← hqd] at hle ⊢
    rw [← htd] at ht
    rw [← hqd] at hpz
    clear hb e0 htd hqd
    go_enter Tryd.func66, Tryd.ntmps66
    go_wp2
    go_ret
    exact ⟨rfl, rfl⟩
theorem RTab.below {W W' : World} {b n : Nat} (h : RTab W b) (hb : Below n W W') (hn : b < n) : RTab W' b := Row.below h hb hn
theorem cls_gl' : ∀ k, k < 38 → cls (gl k) = cl k := by decide +kernel
theorem le_ne : ∀ k, k < 38 → di k ≠ [] → (bs (le k)).toList.isEmpty = false := by decide +kernel
theorem bs_app' (a b : List UInt8) : bs a ++ bs b = bs (a ++ b) := by
  apply ByteArray.ext
  apply Array.ext'
  rw [ByteArray.data_append, Array.toList_append]
  simp [bs]
theorem table_d (w : World) :
    Calls Tryd.prog 65 #[] w fun e W' => ∃ b, e = .returned (.slice (some ⟨b, 0, none⟩) 38 38) ∧ RTab W' b ∧ w.heap.size ≤ b ∧ b < W'.heap.size ∧ Below w.heap.size w W' := by
  refine (table_c w).mono ?_
  rintro e w' ⟨rfl, rfl⟩
  exact ⟨w.heap.size, rfl, Row.new w _ _, Nat.le_refl _, by simp, (Below.refl _ w).alloc (Nat.le_refl _) _⟩
set_option maxRecDepth 100000 in
set_option maxHeartbeats 4000000 in
/-- The plain Class. -/
theorem rclass_c (T : List UInt8) (w : World) :
    Calls Tryd.prog 47 #[.string (bs T)] w fun e W' => e = .returned (.int .i64 ((cls T : Nat) : Int)) ∧ Below w.heap.size w W' := by
  obtain ⟨s, hs⟩ : ∃ s, s = bs T := ⟨_, rfl⟩
  have heq : ∀ k, ((bs (gl k)).toList == s.toList) = (gl k == T) := fun k => by rw [hs, eqb_bs]
  rw [← hs]
  have HE := Lib.hid heq
  clear hs heq
  go_enter Tryd.func47, Tryd.ntmps47
  go_wp2_with (go_at_call 65; refine (table_d _).mono ?_; rintro e w1 ⟨b, rfl, r0, hbg, hb, hB⟩; have HB := Lib.hid hB; clear hB)
  go_loopw [4] (fun i wr => ∃ k : Nat, k ≤ 38 ∧ i = .int .i64 k ∧ wr = w1 ∧ (∀ j, j < k → gl j ≠ T))
    (fun i _ => 38 - (intOf i).toNat)
  case atStart => exact ⟨0, Nat.zero_le _, rfl, rfl, fun j hj => by omega⟩
  case round =>
    obtain ⟨k, hk, rfl, rfl, hn⟩ := hrel
    by_cases hlt : k < 38
    · obtain ⟨c1, c2, c3⟩ := r0.at k hlt
      have hc := HE.out k
      have HN := Lib.hid hn
      have HC3 : Hid (∀ c : Int, c = ((cl k : Nat) : Int) → gl k = T → c = ((cls T : Nat) : Int)) := Lib.hid (fun c e h => by rw [e, ← h, cls_gl' k hlt])
      obtain ⟨c, hcd⟩ : ∃ c : Int, c = ((cl k : Nat) : Int) := ⟨_, rfl⟩
      rw [← hcd] at c3
      have HCD := Lib.hid hcd
      obtain ⟨g, hgd⟩ : ∃ g, g = bs (gl k) := ⟨_, rfl⟩
      rw [← hgd] at c1 hc
      clear hn hcd hgd
      cases ht : (gl k == T) with
      | true =>
        rw [ht] at hc
        have HT : Hid (gl k = T) := Lib.hid (by simpa using ht)
        clear ht
        go_wp2
        go_ret
        exact ⟨by rw [← HC3.out c HCD.out HT.out]; rfl, HB.out⟩
      | false =>
        rw [ht] at hc
        have HT : Hid (gl k ≠ T) := Lib.hid (by simpa using ht)
        clear ht
        go_wp2
        go_roundw
        case rel => exact ⟨k + 1, by omega, by go_num, trivial, fun j hj => by
          rcases Nat.lt_or_ge j k with h1 | h1
          · exact HN.out j h1
          · obtain rfl : j = k := by omega
            exact HT.out⟩
        case measure => simp [intOf]; omega
    · obtain rfl : k = 38 := by omega
      have HL : Hid (cls T = 0) := Lib.hid (by unfold cls; rw [which_none.2 hn])
      clear hn
      go_wp2
      go_ret
      exact ⟨by rw [HL.out]; rfl, HB.out⟩
set_option maxRecDepth 100000 in
set_option maxHeartbeats 4000000 in
theorem rfirst_c (T : List UInt8) (hT : T.length ≤ 10000) (w : World) :
    Calls Tryd.prog 46 #[.string (bs T)] w fun e W' => e = .returned (.tuple #[.string (bs (optG (firstK T))), .int .i64 ((fsz T : Nat) : Int)]) ∧ Below w.heap.size w W' := by
  have hbe := fun p w => begins_c T p hT w
  obtain ⟨s, hs⟩ : ∃ s, s = bs T := ⟨_, rfl⟩
  rw [← hs] at hbe ⊢
  have HBE := Lib.hid hbe
  clear hs hbe
  go_enter Tryd.func46, Tryd.ntmps46
  go_wp2_with (go_at_call 65; refine (table_d _).mono ?_; rintro e w1 ⟨b, rfl, r0, hbg, hb, hB⟩; have HB := Lib.hid hB; clear hB)
  go_loopw [5] (fun i wr => ∃ k : Nat, k ≤ 38 ∧ i = .int .i64 k ∧ wr = w1 ∧ (∀ j, j < k → sz T j = 0))
    (fun i _ => 38 - (intOf i).toNat)
  case atStart => exact ⟨0, Nat.zero_le _, rfl, rfl, fun j hj => by omega⟩
  case round =>
    obtain ⟨k, hk, rfl, rfl, hn⟩ := hrel
    by_cases hlt : k < 38
    · obtain ⟨c1, c2, c3⟩ := r0.at k hlt
      have HN := Lib.hid hn
      have hb1 := HBE.out (gl k)
      have hb2 := HBE.out (di k)
      have hg3 : (bs (gl k)).size ≤ 3 := by rw [bs_size]; exact gl_len k hlt
      have hgz : Hid ((bs (gl k)).size = (gl k).length) := Lib.hid (bs_size _)
      obtain ⟨g, hgd⟩ : ∃ g, g = bs (gl k) := ⟨_, rfl⟩
      obtain ⟨l, hld⟩ : ∃ l, l = bs (le k) := ⟨_, rfl⟩
      have hl1 : l.size ≤ 1 := by rw [hld, bs_size]; unfold le; rw [List.length_drop]; have := di_len k hlt; omega
      rw [← hgd] at c1 hb1 hg3 hgz
      rw [← hld] at c2
      have HLD := Lib.hid hld
      have HGD := Lib.hid hgd
      clear hn hgd hld
      cases hp : Lib.hasPrefix T (gl k) with
      | true =>
        rw [hp] at hb1
        have HB1 := Lib.hid hb1
        have HR : Hid (firstK T = some k ∧ fsz T = (gl k).length) := Lib.hid (by
          have h1 : sz T k = (gl k).length := by unfold sz; rw [if_pos hp]
          have h2 : firstK T = some k := firstK_some.2 ⟨hlt, by rw [h1]; exact fun e => gl_ne k hlt (List.eq_nil_of_length_eq_zero e), HN.out⟩
          exact ⟨h2, by rw [fsz_some h2, h1]⟩)
        clear hp hb1 hb2
        go_wp2_with fail
        refine (HB1.out _).mono ?_
        rintro e w' ⟨rfl, rfl⟩
        go_wp2_with fail
        go_quiet (fail)
        go_wp2
        refine bodyPost_ret (v := .tuple #[.string g, .int .i64 (g.size : Int)]) (by simp [results, Tryd.f46, go_sem]) rfl ⟨by rw [HR.out.1, HR.out.2, HGD.out, bs_size]; rfl, below_dn HB.out _⟩
      | false =>
        rw [hp] at hb1
        have HB1 := Lib.hid hb1
        clear hb1
        by_cases hd : di k = []
        · have hle : l.toList.isEmpty = true := by rw [HLD.out, show le k = [] by unfold le; rw [hd]; rfl]; decide +kernel
          have HS : Hid (sz T k = 0) := Lib.hid (by unfold sz; rw [hp, if_neg (by decide), if_neg (fun h => h.1 hd)])
          clear hd hp hb2
          go_wp2_with fail
          refine (HB1.out _).mono ?_
          rintro e w' ⟨rfl, rfl⟩
          go_wp2
          go_roundw
          case rel => exact ⟨k + 1, by omega, by go_num, trivial, fun j hj => by
            rcases Nat.lt_or_ge j k with h1 | h1
            · exact HN.out j h1
            · obtain rfl : j = k := by omega
              exact HS.out⟩
          case measure => simp [intOf]; omega
        · have hle : l.toList.isEmpty = false := by rw [HLD.out]; exact le_ne k hlt hd
          have hdl : ⟨#[96]⟩ ++ l = bs (di k) := by
            rw [HLD.out, ← le_di k hlt hd]
            have : (⟨#[96]⟩ : ByteArray) = bs [96] := rfl
            rw [this, bs_app']
            rfl
          rw [← hdl] at hb2
          cases hp2 : Lib.hasPrefix T (di k) with
          | true =>
            rw [hp2] at hb2
            have HB2 := Lib.hid hb2
            have HR : Hid (firstK T = some k ∧ fsz T = 2) := Lib.hid (by
              have h1 : sz T k = 2 := by
                unfold sz
                rw [hp, if_neg (by decide), if_pos ⟨hd, hp2⟩]
                rcases di_len k hlt with e | e
                · exact absurd (List.eq_nil_of_length_eq_zero e) hd
                · exact e
              have h2 : firstK T = some k := firstK_some.2 ⟨hlt, by rw [h1]; decide, HN.out⟩
              exact ⟨h2, by rw [fsz_some h2, h1]⟩)
            clear hd hp hb2 hdl hp2
            go_wp2_with fail
            refine (HB1.out _).mono ?_
            rintro e w' ⟨rfl, rfl⟩
            go_wp2_with fail
            refine (HB2.out _).mono ?_
            rintro e w' ⟨rfl, rfl⟩
            go_wp2
            refine bodyPost_ret (v := .tuple #[.string g, .int .i64 2]) (by simp [results, Tryd.f46, go_sem]) rfl ⟨by rw [HR.out.1, HR.out.2, HGD.out]; rfl, HB.out⟩
          | false =>
            rw [hp2] at hb2
            have HB2 := Lib.hid hb2
            have HS : Hid (sz T k = 0) := Lib.hid (by unfold sz; rw [hp, hp2, if_neg (by decide), if_neg (fun h => by cases h.2)])
            clear hd hp hb2 hdl hp2
            go_wp2_with fail
            refine (HB1.out _).mono ?_
            rintro e w' ⟨rfl, rfl⟩
            go_wp2_with fail
            refine (HB2.out _).mono ?_
            rintro e w' ⟨rfl, rfl⟩
            go_wp2
            go_roundw
            case rel => exact ⟨k + 1, by omega, by go_num, trivial, fun j hj => by
              rcases Nat.lt_or_ge j k with h1 | h1
              · exact HN.out j h1
              · obtain rfl : j = k := by omega
                exact HS.out⟩
            case measure => simp [intOf]; omega
    · obtain rfl : k = 38 := by omega
      have hf := firstK_none.2 hn
      have HL : Hid (firstK T = none ∧ fsz T = 0) := Lib.hid ⟨hf, by unfold fsz; rw [hf]⟩
      clear hn hf
      go_wp2
      refine bodyPost_ret (v := .tuple #[.string ⟨#[]⟩, .int .i64 0]) (by simp [results, Tryd.f46, go_sem]) rfl ⟨by rw [HL.out.1, HL.out.2]; rfl, HB.out⟩
end Rs
end Go.Proofs.YthbiflmmlcmncaaDoor
