/- A text, as a show has it. -/
import Derived.Test.YtbegplfijjbpcaaDoorNoDig
import Derived.Lib.AppendStr
import Derived.Lib.BufferWrite
import Derived.Lib.BufferRead
namespace Go.Proofs.YtbegplfijjbpcaaDoor.No
open Go Go.RowKit Go.Shelf
attribute [local go_sem] Oper.semAt_some

theorem infoU8 : ∃ i, Tryd.prog.info? 5 = some i ∧ i.zero = some (.int .u8 0) ∧ i.size = 1 ∧ i.bytes = 1 :=
  info_parts (show (Tryd.prog.info? 5).map (fun i => (i.zero, i.size, i.bytes)) = some (some (.int .u8 0), 1, 1) by kernel_rfl)
theorem byteCells_app (a b : List UInt8) : Lib.byteCells (a ++ b) = Lib.byteCells a ++ Lib.byteCells b := by simp [Lib.byteCells]
theorem own_conv {W : World} {base : Nat} {v : Value} {T : List UInt8} (h : W.ownsRow base 5 1 v T.length (Lib.byteCells T)) : (convert 50 9 v).run Tryd.prog W = .ok (.string (bs T)) W := by
  rcases h.2 with ⟨rfl, h0⟩ | ⟨g, cap, cur, rfl, hbg, hg, hnc, hcm, hcs, htk⟩
  · have hT : T = [] := List.eq_nil_of_length_eq_zero h0
    subst hT
    have := Lib.run_convert_nil_bytes (P := Tryd.prog) W 50 9 5 0 Tryd.underlying50 Tryd.underlying5 Tryd.underlying9
    simpa [bs] using this
  · exact run_convert_bytes_back (P := Tryd.prog) W 50 9 5 ⟨g, 0, none⟩ cap T Tryd.underlying50 Tryd.underlying5 Tryd.underlying9 (fun j hj => h.cells (g := g) rfl j _ (by simp [Lib.byteCells, hj]))
theorem byte_at (x : ByteArray) (k : Nat) (h : k < x.size) : x.data.toList[k]? = some x[k] := by
  have hl : k < x.data.toList.length := by rw [← Lib.size_eq]; exact h
  rw [List.getElem?_eq_getElem hl]
  rfl
theorem word_snoc {X : List UInt8} {k : Nat} {c : UInt8} (h : X[k]? = some c) : wordB (X.take (k + 1)) = wordB (X.take k) ++ escB c := by
  rw [List.take_add_one, h]
  simp [wordB]
theorem esc_len (c : UInt8) : (escB c).length ≤ 3 := by
  unfold escB
  split
  · exact Nat.le_refl _
  · exact Nat.le_succ_of_le (Nat.le_succ _)
theorem word_len : ∀ X : List UInt8, (wordB X).length ≤ 3 * X.length
  | [] => Nat.le_refl _
  | c :: X => by
    have h1 := word_len X
    have h2 := esc_len c
    have : wordB (c :: X) = escB c ++ wordB X := rfl
    rw [this, List.length_append, List.length_cons]
    omega

theorem bad_iff (c : UInt8) : badB c = true ↔ (c.toNat : Int) < 33 ∨ (126 : Int) < (c.toNat : Int) ∨ (c.toNat : Int) = 37 ∨ (c.toNat : Int) = 40 ∨ (c.toNat : Int) = 41 ∨ (c.toNat : Int) = 58 := by
  have e : ∀ d : UInt8, c = d ↔ (c.toNat : Int) = (d.toNat : Int) := fun d => by rw [← UInt8.toNat_inj]; omega
  unfold badB
  simp only [Bool.or_eq_true, decide_eq_true_eq, UInt8.lt_iff_toNat_lt, e]
  have h1 : (33 : UInt8).toNat = 33 := rfl
  have h2 : (126 : UInt8).toNat = 126 := rfl
  have h3 : (37 : UInt8).toNat = 37 := rfl
  have h4 : (40 : UInt8).toNat = 40 := rfl
  have h5 : (41 : UInt8).toNat = 41 := rfl
  have h6 : (58 : UInt8).toNat = 58 := rfl
  show ((((((c.toNat < (33 : UInt8).toNat ∨ (126 : UInt8).toNat < c.toNat) ∨ _) ∨ _) ∨ _) ∨ _)) ↔ _
  rw [h1, h2, h3, h4, h5, h6]
  omega
theorem neq_of {a b : Int} (h : a ≠ b) : (a == b) = false := by simpa using h
theorem eq_of {a b : Int} (h : a = b) : (a == b) = true := by simpa using h
/-- The sixteen digits. -/
def hexT : ByteArray := ⟨#[48, 49, 50, 51, 52, 53, 54, 55, 56, 57, 97, 98, 99, 100, 101, 102]⟩
theorem hexT_size : hexT.size = 16 := rfl
theorem hexT_at : ∀ q, q < 16 → hexT.data[q]? = some (hexB q) := by decide
theorem run_index_hex {P : Program} (w : World) (t : TypeId) (k : IntKind) (q : Nat) (h : P.underlying t = some .string) (hq : q < 16) :
    (Instr.index t (.string hexT) (.int k (q : Int))).run P w = .ok (.int .u8 ((hexB q).toNat : Int)) w := by
  have hi : 0 ≤ (q : Int) ∧ (q : Int) < (hexT.size : Int) := by rw [hexT_size]; omega
  have h2 : q < hexT.size := by rw [hexT_size]; omega
  rw [run_index_string w t hexT k q h, dif_pos hi]
  have h3 := hexT_at q hq
  have h4 : hexT[q] = hexB q := (Array.getElem?_eq_some_iff.1 h3).2
  show Result.ok (Value.int .u8 ((hexT[q] : UInt8).toNat : Int)) w = _
  rw [h4]
theorem run_index_hexq {P : Program} (w : World) (t : TypeId) (k : IntKind) (c : UInt8) (h : P.underlying t = some .string) :
    (Instr.index t (.string ⟨#[48, 49, 50, 51, 52, 53, 54, 55, 56, 57, 97, 98, 99, 100, 101, 102]⟩) (.int k (IntKind.u8.wrap ((c.toNat : Int) / 16)))).run P w = .ok (.int .u8 ((hexB (c.toNat / 16)).toNat : Int)) w := by
  have hc := UInt8.toNat_lt c
  have : IntKind.u8.wrap ((c.toNat : Int) / 16) = ((c.toNat / 16 : Nat) : Int) := by
    show ((c.toNat : Int) / 16) % 256 = _
    omega
  rw [this]
  exact run_index_hex w t k _ h (by omega)
theorem run_index_hexr {P : Program} (w : World) (t : TypeId) (k : IntKind) (c : UInt8) (h : P.underlying t = some .string) :
    (Instr.index t (.string ⟨#[48, 49, 50, 51, 52, 53, 54, 55, 56, 57, 97, 98, 99, 100, 101, 102]⟩) (.int k ((c.toNat : Int).tmod 16))).run P w = .ok (.int .u8 ((hexB (c.toNat % 16)).toNat : Int)) w := by
  have : (c.toNat : Int).tmod 16 = ((c.toNat % 16 : Nat) : Int) := rfl
  rw [this]
  exact run_index_hex w t k _ h (by omega)
attribute [local go_sem high] run_index_hexq run_index_hexr

set_option maxRecDepth 100000 in
set_option maxHeartbeats 8000000 in
/-- word(s). -/
theorem word_c (X : List UInt8) (hX : X.length ≤ 10000000) (w : World) :
    Calls Tryd.prog 52 #[.string (bs X)] w fun e W' => e = .returned (.string (bs (wordB X))) ∧ Below w.heap.size w W' := by
  obtain ⟨i0, hi, hz0, hz1, hz2⟩ := infoU8
  obtain ⟨x, hx⟩ : ∃ x, x = bs X := ⟨_, rfl⟩
  have hxl : x.data.toList = X := by rw [hx, bs_list]
  have hxs : x.size ≤ 10000000 := by rw [hx, bs_size]; exact hX
  have hxz : x.size = X.length := by rw [hx, bs_size]
  have HX := Lib.hid hxl
  have HXZ := Lib.hid hxz
  rw [← hx]
  clear hx hxl hxz
  go_enter Tryd.func52, Tryd.ntmps52
  go_wp2
  go_loopw [4, 5] (fun u i wr => ∃ k : Nat, k ≤ x.size ∧ i = .int .i64 k ∧ wr.ownsRow w.heap.size 5 1 u (wordB (X.take k)).length (Lib.byteCells (wordB (X.take k))) ∧ Below w.heap.size w wr)
    (fun _ i _ => x.size - (intOf i).toNat)
  case atStart => exact ⟨0, Nat.zero_le _, rfl, World.ownsRow_nil _ _ _ _, Below.refl _ _⟩
  case round =>
    obtain ⟨k, hk, rfl, hown, hB⟩ := hrel
    have HO := Lib.hid hown
    have HB := Lib.hid hB
    have hbs := hB.size
    clear hown hB
    by_cases hlt : k < x.size
    · have hat := byte_at x k hlt
      rw [HX.out] at hat
      have HS := Lib.hid (word_snoc hat)
      have H3 : Hid ((wordB (X.take k)).length + 3 ≤ 40000000) := Lib.hid (by have h1 := word_len (X.take k); rw [List.length_take] at h1; omega)
      have HBI := Lib.hid (bad_iff x[k])
      clear hat
      by_cases hbad : badB x[k] = true
      · have HES : Hid (Lib.byteCells (wordB (X.take (k + 1))) = Lib.byteCells (wordB (X.take k)) ++ [.int .u8 37, .int .u8 ((hexB (x[k].toNat / 16)).toNat : Int), .int .u8 ((hexB (x[k].toNat % 16)).toNat : Int)] ∧ (wordB (X.take (k + 1))).length = (wordB (X.take k)).length + 3) := Lib.hid (by
          rw [HS.out, byteCells_app]
          unfold escB
          rw [if_pos hbad]
          exact ⟨rfl, by simp⟩)
        have H1 : Hid (∀ (j : Nat) (u : Value), [Value.int .u8 37, .int .u8 ((hexB (x[k].toNat / 16)).toNat : Int), .int .u8 ((hexB (x[k].toNat % 16)).toNat : Int)][j]? = some u → (wr.drew.alloc (.cells #[.int .u8 37, .int .u8 ((hexB (x[k].toNat / 16)).toNat : Int), .int .u8 ((hexB (x[k].toNat % 16)).toNat : Int)] 5)).cell? ((⟨wr.heap.size, 0, none⟩ : Addr).add j) = some u) :=
          Lib.hid (World.news_of_block (World.alloc_heap_new wr.drew (.cells #[.int .u8 37, .int .u8 ((hexB (x[k].toNat / 16)).toNat : Int), .int .u8 ((hexB (x[k].toNat % 16)).toNat : Int)] 5)))
        have H2 : Hid (∀ u ∈ [Value.int .u8 37, .int .u8 ((hexB (x[k].toNat / 16)).toNat : Int), .int .u8 ((hexB (x[k].toNat % 16)).toNat : Int)], u.oneCell' = true) := Lib.hid (by intro u hu; simp at hu; rcases hu with rfl | rfl | rfl <;> rfl)
        have H4 : Hid ((wordB (X.take k)).length + 3 ≤ maxLen ∧ ((wordB (X.take k)).length + 3) * 1 ≤ 140737488355328) := Lib.hid ⟨by have := H3.out; unfold maxLen; omega, by have := H3.out; omega⟩
        have H5 : Hid (w.heap.size ≤ (wr.drew.alloc (.cells #[.int .u8 37, .int .u8 ((hexB (x[k].toNat / 16)).toNat : Int), .int .u8 ((hexB (x[k].toNat % 16)).toNat : Int)] 5)).heap.size) := Lib.hid (by rw [World.size_alloc]; exact Nat.le_succ_of_le hbs)
        have hcs := (HBI.out).1 hbad
        have hor : (x[k].toNat : Int) < 33 ∨ (¬ (x[k].toNat : Int) < 33 ∧ (126 : Int) < (x[k].toNat : Int)) ∨ (¬ (x[k].toNat : Int) < 33 ∧ ¬ (126 : Int) < (x[k].toNat : Int) ∧ ((x[k].toNat : Int) == 37) = true) ∨ (¬ (x[k].toNat : Int) < 33 ∧ ¬ (126 : Int) < (x[k].toNat : Int) ∧ ((x[k].toNat : Int) == 37) = false ∧ ((x[k].toNat : Int) == 40) = true) ∨ (¬ (x[k].toNat : Int) < 33 ∧ ¬ (126 : Int) < (x[k].toNat : Int) ∧ ((x[k].toNat : Int) == 37) = false ∧ ((x[k].toNat : Int) == 40) = false ∧ ((x[k].toNat : Int) == 41) = true) ∨ (¬ (x[k].toNat : Int) < 33 ∧ ¬ (126 : Int) < (x[k].toNat : Int) ∧ ((x[k].toNat : Int) == 37) = false ∧ ((x[k].toNat : Int) == 40) = false ∧ ((x[k].toNat : Int) == 41) = false ∧ ((x[k].toNat : Int) == 58) = true) := by
          simp only [beq_iff_eq, beq_eq_false_iff_ne]
          omega
        clear hcs hbad
        rcases hor with c1 | ⟨c1, c2⟩ | ⟨c1, c2, c3⟩ | ⟨c1, c2, c3, c4⟩ | ⟨c1, c2, c3, c4, c5⟩ | ⟨c1, c2, c3, c4, c5, c6⟩
        all_goals
          go_wp2_with fail
          go_region_held_law (fun _ => True) (first | trivial)
            (first | (refine step_append_lies _ rfl (.tmp 38) (.tmp 47) 50 rfl w.heap.size 5 i0 (.int .u8 0) 1 1 Tryd.underlying50 hi hz0 hz1 hz2 rfl (by decide) u4 (wordB (X.take k)).length (Lib.byteCells (wordB (X.take k))) rfl (HO.out.drew.alloc _) ⟨wr.heap.size, 0, none⟩ 3 3 [.int .u8 37, .int .u8 ((hexB (x[k].toNat / 16)).toNat : Int), .int .u8 ((hexB (x[k].toNat % 16)).toNat : Int)] rfl rfl H1.out H2.out (by decide) H4.out.1 H4.out.2 H5.out _ rfl ?_; intro g cap w1 hown hgrow hat hlt1; have HG := Lib.hid hgrow; have HO1 := Lib.hid hown; clear hgrow hown hat))
          all_goals
            have HNext : Hid (w1.ownsRow w.heap.size 5 1 (.slice (some ⟨g, 0, none⟩) ((wordB (X.take k)).length + 3) cap) (wordB (X.take (k + 1))).length (Lib.byteCells (wordB (X.take (k + 1)))) ∧ Below w.heap.size w w1) := by
              have hlt2 := HO.out.lt
              refine Lib.hid ⟨?_, (HB.out.drew.alloc hbs _).grown HG.out (by show _ ≤ _; rw [World.size_alloc]; exact Nat.le_succ_of_le hbs) (fun j ej => (hlt2 j ej).1)⟩
              rw [HES.out.1, HES.out.2]
              exact HO1.out
            clear H1 H2 H4 H5 HG HO1 HO HB hlt1
            go_wp2
            go_roundw
            case rel => exact ⟨k + 1, by omega, by go_num, HNext.out.1, HNext.out.2⟩
            case measure => simp [intOf]; omega
      · have HES : Hid (Lib.byteCells (wordB (X.take (k + 1))) = Lib.byteCells (wordB (X.take k)) ++ [.int .u8 (x[k].toNat : Int)] ∧ (wordB (X.take (k + 1))).length = (wordB (X.take k)).length + 1) := Lib.hid (by
          rw [HS.out, byteCells_app]
          unfold escB
          rw [if_neg hbad]
          exact ⟨rfl, by simp⟩)
        have hcs := fun h => hbad ((HBI.out).2 h)
        have c1 : ¬ (x[k].toNat : Int) < 33 := fun h => hcs (.inl h)
        have c2 : ¬ (126 : Int) < (x[k].toNat : Int) := fun h => hcs (.inr (.inl h))
        have c3 : ((x[k].toNat : Int) == 37) = false := neq_of (fun h => hcs (.inr (.inr (.inl h))))
        have c4 : ((x[k].toNat : Int) == 40) = false := neq_of (fun h => hcs (.inr (.inr (.inr (.inl h)))))
        have c5 : ((x[k].toNat : Int) == 41) = false := neq_of (fun h => hcs (.inr (.inr (.inr (.inr (.inl h))))))
        have c6 : ((x[k].toNat : Int) == 58) = false := neq_of (fun h => hcs (.inr (.inr (.inr (.inr (.inr h))))))
        have H1 : Hid (∀ (j : Nat) (u : Value), [Value.int .u8 (x[k].toNat : Int)][j]? = some u → (wr.alloc (.cells #[.int .u8 (x[k].toNat : Int)] 5)).cell? ((⟨wr.heap.size, 0, none⟩ : Addr).add j) = some u) := Lib.hid (World.news_of_block (World.alloc_heap_new wr (.cells #[.int .u8 (x[k].toNat : Int)] 5)))
        have H2 : Hid (∀ u ∈ [Value.int .u8 (x[k].toNat : Int)], u.oneCell' = true) := Lib.hid (by simp [Value.oneCell'])
        have H4 : Hid ((wordB (X.take k)).length + 1 ≤ maxLen ∧ ((wordB (X.take k)).length + 1) * 1 ≤ 140737488355328) := Lib.hid ⟨by have := H3.out; unfold maxLen; omega, by have := H3.out; omega⟩
        have H5 : Hid (w.heap.size ≤ (wr.alloc (.cells #[.int .u8 (x[k].toNat : Int)] 5)).heap.size) := Lib.hid (by rw [World.size_alloc]; exact Nat.le_succ_of_le hbs)
        clear hcs hbad
        go_wp2_with (at_builtin; refine wpList_append_lies _ rfl (.tmp 49) (.tmp 51) 50 rfl w.heap.size 5 i0 (.int .u8 0) 1 1 Tryd.underlying50 hi hz0 hz1 hz2 rfl (by decide) u4 _ _ rfl (HO.out.alloc _) ⟨wr.heap.size, 0, none⟩ 1 1 [.int .u8 (x[k].toNat : Int)] rfl rfl H1.out H2.out (by decide) H4.out.1 H4.out.2 H5.out _ rfl ?_; intro g cap w1 hown hgrow hat hlt1; have HG := Lib.hid hgrow; have HO1 := Lib.hid hown; clear hown hgrow hat hlt1)
        have HNext : Hid (w1.ownsRow w.heap.size 5 1 (.slice (some ⟨g, 0, none⟩) ((wordB (X.take k)).length + 1) cap) (wordB (X.take (k + 1))).length (Lib.byteCells (wordB (X.take (k + 1)))) ∧ Below w.heap.size w w1) := by
          have hlt2 := HO.out.lt
          refine Lib.hid ⟨?_, (HB.out.alloc hbs _).grown HG.out H5.out (fun j ej => (hlt2 j ej).1)⟩
          rw [HES.out.1, HES.out.2]
          exact HO1.out
        clear H1 H2 H4 H5 HG HO1 HO HB
        go_roundw
        case rel => exact ⟨k + 1, by omega, by go_num, HNext.out.1, HNext.out.2⟩
        case measure => simp [intOf]; omega
    · obtain rfl : k = x.size := by omega
      have hcv := own_conv (HO.out)
      rw [HXZ.out, List.take_length] at hcv
      obtain ⟨a7, c7, rfl⟩ := own_form HO.out
      go_wp2
      go_ret
      exact ⟨rfl, HB.out⟩
end Go.Proofs.YtbegplfijjbpcaaDoor.No
