/- The plain Glyphs and Ascii. -/
import Derived.Test.YtldffmnmofmkaaaDoorGlPlainA
import Derived.Test.YtldffmnmofmkaaaDoorGlSpell
import Derived.Laws.IdiomStrings
namespace Go.Proofs.YtldffmnmofmkaaaDoor
open Go Go.RowKit

theorem firstK_byte (x : ByteArray) (k : Nat) (h : k < x.size) : x.data.toList.drop k = x[k] :: x.data.toList.drop (k + 1) := by
  have hl : k < x.data.toList.length := by rw [← Lib.size_eq]; exact h
  rw [List.drop_eq_getElem_cons hl]
  rfl

/-- What was written, and what is left to turn. -/
def Mid (f : Nat → List UInt8) (X : List UInt8) (k : Nat) (O : List UInt8) : Prop := O ++ turn f (X.drop k) 0 = turn f X 0
theorem Mid.start (f : Nat → List UInt8) (X : List UInt8) : Mid f X 0 [] := rfl
theorem Mid.len {f : Nat → List UInt8} {X : List UInt8} {k : Nat} {O : List UInt8} (h : Mid f X k O) (hf : ∀ k, k < 38 → (f k).length ≤ 3) (hX : X.length ≤ 300) : O.length ≤ 900 := by
  have h1 := congrArg List.length h
  rw [List.length_append] at h1
  have := turn_len f hf X.length X (Nat.le_refl _)
  omega
theorem Mid.stop {f : Nat → List UInt8} {X : List UInt8} {O : List UInt8} (h : Mid f X X.length O) : O = turn f X 0 := by
  unfold Mid at h
  rw [List.drop_of_length_le (Nat.le_refl _), turn_nil, List.append_nil] at h
  exact h

theorem Mid.byte {f : Nat → List UInt8} {X : List UInt8} {k : Nat} {O : List UInt8} {b : UInt8} (h : Mid f X k O) (hd : X.drop k = b :: X.drop (k + 1)) (ht : turn f (b :: X.drop (k + 1)) 0 = b :: turn f (X.drop (k + 1)) 0) : Mid f X (k + 1) (O ++ [b]) := by
  unfold Mid at h ⊢
  rw [hd, ht] at h
  rw [List.append_assoc]
  exact h
theorem Mid.hit {f : Nat → List UInt8} {X : List UInt8} {k : Nat} {O : List UInt8} {j : Nat} (h : Mid f X k O) (hf : firstK (X.drop k) = some j) : Mid f X (k + fsz (X.drop k)) (O ++ f j) := by
  unfold Mid at h ⊢
  rw [turn_hit f hf, List.drop_drop] at h
  rw [List.append_assoc]
  exact h
theorem byteCells_snoc (O : List UInt8) (b : UInt8) : Lib.byteCells (O ++ [b]) = Lib.byteCells O ++ [.int .u8 (b.toNat : Int)] := by
  rw [byteCells_app]
  rfl

set_option maxRecDepth 100000 in
set_option maxHeartbeats 4000000 in
theorem rglyphs_c (X : List UInt8) (hX : X.length ≤ 300) (w : World) :
    Calls Tryd.prog 21 #[.string (bs X)] w fun e W' => e = .returned (.string (bs (turn gl X 0))) ∧ Below w.heap.size w W' := by
  obtain ⟨i0, hi, hz0, hz1, hz2⟩ := info_parts Tryd.infoU8
  obtain ⟨x, hx⟩ : ∃ x, x = bs X := ⟨_, rfl⟩
  have hxl : x.data.toList = X := by rw [hx, bs_list]
  have hxs : x.size ≤ 300 := by rw [hx, bs_size]; exact hX
  have hxz : x.size = X.length := by rw [hx, bs_size]
  have HX := Lib.hid hxl
  have HXZ := Lib.hid hxz
  have hfi : ∀ k w, Calls Tryd.prog 14 #[.string (x.extract k x.size)] w fun e W' => e = .returned (.tuple #[.string (bs (optG (firstK (X.drop k)))), .int .i64 ((fsz (X.drop k) : Nat) : Int)]) ∧ Below w.heap.size w W' := fun k w => by
    have h1 := rfirst_c (X.drop k) (by rw [List.length_drop]; omega) w
    rw [hx, bs_drop]
    exact h1
  rw [← hx]
  have HF := Lib.hid hfi
  clear hx hxl hfi hxz
  go_enter Tryd.func21, Tryd.ntmps21
  go_wp2
  go_loopw [3, 4] (fun u i wr => ∃ (k : Nat) (O : List UInt8), k ≤ x.size ∧ i = .int .i64 k ∧ wr.ownsRow w.heap.size 5 1 u O.length (Lib.byteCells O) ∧ Mid gl X k O ∧ Below w.heap.size w wr)
    (fun _ i _ => x.size - (intOf i).toNat)
  case atStart => exact ⟨0, [], Nat.zero_le _, rfl, World.ownsRow_nil _ _ _ _, Mid.start gl X, Below.refl _ _⟩
  case round =>
    obtain ⟨k, O, hk, rfl, hown, hM, hB⟩ := hrel
    have HO := Lib.hid hown
    have HM := Lib.hid hM
    have HB := Lib.hid hB
    have HL := Lib.hid (hM.len gl_len hX)
    have hbs := hB.size
    clear hown hM hB
    by_cases hlt : k < x.size
    · have hdr : X.drop k = x[k] :: X.drop (k + 1) := by rw [← HX.out]; exact firstK_byte x k hlt
      have HDR := Lib.hid hdr
      have hc := HF.out k
      have hz3 := fsz_le3 (X.drop k)
      clear hdr
      obtain ⟨z, hz⟩ : ∃ z, z = fsz (X.drop k) := ⟨_, rfl⟩
      obtain ⟨g, hg⟩ : ∃ g, g = bs (optG (firstK (X.drop k))) := ⟨_, rfl⟩
      rw [← hz] at hc hz3
      rw [← hg] at hc
      have HC := Lib.hid hc
      have HZ := Lib.hid hz
      have HGD := Lib.hid hg
      clear hc hz hg
      by_cases hit : z = 2 ∧ x[k] = 96
      · obtain ⟨hzz, h96⟩ := hit
        obtain ⟨j, hj⟩ : ∃ j, firstK (X.drop k) = some j := by
          cases hf : firstK (X.drop k) with
          | some j => exact ⟨j, rfl⟩
          | none => have h1 := HZ.out; unfold fsz at h1; rw [hf] at h1; dsimp only at h1; omega
        have hk2 : k + 2 ≤ x.size := by
          have h1 := fsz_le (X.drop k)
          rw [← HZ.out, List.length_drop, ← HXZ.out] at h1
          omega
        have HN : Hid (Mid gl X (k + 2) (O ++ gl j)) := Lib.hid (by have h1 := HM.out.hit hj; rw [← HZ.out, hzz] at h1; exact h1)
        have HGJ : Hid (g = bs (gl j)) := Lib.hid (by rw [HGD.out, hj]; rfl)
        have hj3 : (gl j).length ≤ 3 := gl_len j (firstK_some.1 hj).1
        have HJ3 := Lib.hid hj3
        have t96 : ((x[k].toNat : Int) == 96) = true := by rw [h96]; rfl
        have tz : ((z : Int) == 2) = true := by rw [hzz]; rfl
        clear hj hj3
        go_wp2_with fail
        refine (HC.out _).mono ?_
        rintro e w1 ⟨rfl, hb1⟩
        have HO1 := Lib.hid (own_below HO.out hb1)
        have HB1 := Lib.hid (HB.out.trans (hb1.mono hbs))
        have hbs1 : w.heap.size ≤ w1.heap.size := Nat.le_trans hbs hb1.size
        have HM1 : Hid (O.length + g.size ≤ maxLen ∧ O.length + g.size ≤ 140737488355328) := Lib.hid (by have h1 := HL.out; have h2 := HJ3.out; rw [HGJ.out, bs_size]; unfold maxLen; omega)
        clear hb1
        go_wp2_with (at_builtin; refine Lib.wpList_append_own_string _ rfl (.tmp 26) (.tmp 27) 53 9 rfl w.heap.size 5 i0 Tryd.underlying53 Tryd.underlying9 hi hz0 hz1 hz2 u3 _ _ rfl HO1.out g rfl HM1.out.1 HM1.out.2 hbs1 ?_; intro v' w2 hown' hgrow _; have HG := Lib.hid hgrow; have HO' := Lib.hid hown'; clear hown' hgrow)
        go_roundw
        case rel =>
          refine ⟨k + 2, O ++ gl j, hk2, by go_num, ?_, HN.out, HB1.out.grown HG.out hbs1 (fun i ei => (HO1.out.lt i ei).1)⟩
          have h1 := HO'.out
          rw [HGJ.out, bs_size, strCells_bs, ← byteCells_app, ← List.length_append] at h1
          exact h1
        case measure => simp [intOf]; omega
      · have HN : Hid (Mid gl X (k + 1) (O ++ [x[k]])) := Lib.hid (HM.out.byte HDR.out (turn_gl_byte (fun j hj h96 => hit (by
          rw [HZ.out, HDR.out]
          rw [h96] at hj ⊢
          exact ⟨(first_tick hj).2.2, rfl⟩))))
        have H3 : Hid (O.length + 1 ≤ maxLen ∧ (O.length + 1) * 1 ≤ 140737488355328) := Lib.hid (by have h1 := HL.out; unfold maxLen; omega)
        by_cases hzz : z = 2
        · have h96 : x[k] ≠ 96 := fun h => hit ⟨hzz, h⟩
          have t96 : ((x[k].toNat : Int) == 96) = false := beq_eq_false_iff_ne.2 (fun e => h96 (UInt8.toNat_inj.1 (by show x[k].toNat = 96; omega)))
          have tz : ((z : Int) == 2) = true := by rw [hzz]; rfl
          clear hit h96
          go_wp2_with fail
          refine (HC.out _).mono ?_
          rintro e w1 ⟨rfl, hb1⟩
          have HO1 := Lib.hid (own_below HO.out hb1)
          have HB1 := Lib.hid (HB.out.trans (hb1.mono hbs))
          have hbs1 : w.heap.size ≤ w1.heap.size := Nat.le_trans hbs hb1.size
          have HC1 : Hid (∀ (j : Nat) (u : Value), [Value.int .u8 (x[k].toNat : Int)][j]? = some u → (w1.alloc (.cells #[.int .u8 (x[k].toNat : Int)] 5)).cell? ((⟨w1.heap.size, 0, none⟩ : Addr).add j) = some u) := Lib.hid (cell_one_new _ _ _)
          have HC2 : Hid (∀ u ∈ [Value.int .u8 (x[k].toNat : Int)], u.oneCell' = true) := Lib.hid (by simp [Value.oneCell'])
          have H5 : Hid (w.heap.size ≤ (w1.alloc (.cells #[.int .u8 (x[k].toNat : Int)] 5)).heap.size) := Lib.hid (by rw [World.size_alloc]; omega)
          clear hb1
          go_wp2_with (at_builtin; refine wpList_append_lies _ rfl (.tmp 31) (.tmp 35) 53 rfl w.heap.size 5 i0 (.int .u8 0) 1 1 Tryd.underlying53 hi hz0 hz1 hz2 rfl (by decide) u3 _ _ rfl (HO1.out.alloc _) ⟨w1.heap.size, 0, none⟩ 1 1 [.int .u8 (x[k].toNat : Int)] rfl rfl HC1.out HC2.out (by decide) H3.out.1 H3.out.2 H5.out _ rfl ?_; intro g2 cap w2 hown' hgrow hat hlt1; have HG := Lib.hid hgrow; have HO' := Lib.hid hown'; clear hown' hgrow hat hlt1)
          go_roundw
          case rel =>
            refine ⟨k + 1, O ++ [x[k]], by omega, by go_num, ?_, HN.out, (HB1.out.alloc hbs1 _).grown HG.out H5.out (fun i ei => (HO1.out.lt i ei).1)⟩
            have h1 := HO'.out
            rw [byteCells_snoc, List.length_append, List.length_singleton]
            exact h1
          case measure => simp [intOf]; omega
        · have tz : ((z : Int) == 2) = false := beq_eq_false_iff_ne.2 (by omega)
          clear hit
          go_wp2_with fail
          refine (HC.out _).mono ?_
          rintro e w1 ⟨rfl, hb1⟩
          have HO1 := Lib.hid (own_below HO.out hb1)
          have HB1 := Lib.hid (HB.out.trans (hb1.mono hbs))
          have hbs1 : w.heap.size ≤ w1.heap.size := Nat.le_trans hbs hb1.size
          have HC1 : Hid (∀ (j : Nat) (u : Value), [Value.int .u8 (x[k].toNat : Int)][j]? = some u → (w1.alloc (.cells #[.int .u8 (x[k].toNat : Int)] 5)).cell? ((⟨w1.heap.size, 0, none⟩ : Addr).add j) = some u) := Lib.hid (cell_one_new _ _ _)
          have HC2 : Hid (∀ u ∈ [Value.int .u8 (x[k].toNat : Int)], u.oneCell' = true) := Lib.hid (by simp [Value.oneCell'])
          have H5 : Hid (w.heap.size ≤ (w1.alloc (.cells #[.int .u8 (x[k].toNat : Int)] 5)).heap.size) := Lib.hid (by rw [World.size_alloc]; omega)
          clear hb1
          go_wp2_with (at_builtin; refine wpList_append_lies _ rfl (.tmp 31) (.tmp 35) 53 rfl w.heap.size 5 i0 (.int .u8 0) 1 1 Tryd.underlying53 hi hz0 hz1 hz2 rfl (by decide) u3 _ _ rfl (HO1.out.alloc _) ⟨w1.heap.size, 0, none⟩ 1 1 [.int .u8 (x[k].toNat : Int)] rfl rfl HC1.out HC2.out (by decide) H3.out.1 H3.out.2 H5.out _ rfl ?_; intro g2 cap w2 hown' hgrow hat hlt1; have HG := Lib.hid hgrow; have HO' := Lib.hid hown'; clear hown' hgrow hat hlt1)
          go_roundw
          case rel =>
            refine ⟨k + 1, O ++ [x[k]], by omega, by go_num, ?_, HN.out, (HB1.out.alloc hbs1 _).grown HG.out H5.out (fun i ei => (HO1.out.lt i ei).1)⟩
            have h1 := HO'.out
            rw [byteCells_snoc, List.length_append, List.length_singleton]
            exact h1
          case measure => simp [intOf]; omega
    · obtain rfl : k = x.size := by omega
      have hO : O = turn gl X 0 := by
        have h1 := HM.out
        rw [HXZ.out] at h1
        exact h1.stop
      have hcv := own_conv (HO.out)
      rw [hO] at hcv
      obtain ⟨a7, l7, k7, rfl⟩ := own_slice HO.out
      clear hO
      go_wp2
      go_ret
      exact ⟨rfl, HB.out⟩
end Go.Proofs.YtldffmnmofmkaaaDoor
