/- A buffer in memory; its size, its reading, its parting, its splice. -/
import Derived.Test.YtajbcaggpfopnaaDoorText
import Derived.Test.YtajbcaggpfopnaaDoorSize
import Derived.Test.YtajbcaggpfopnaaDoorRead2
import Derived.OwnWalk
import Derived.Laws.OwnMore
import Derived.Laws.MakeOwn
import Derived.Outline
namespace Go.Proofs.YtajbcaggpfopnaaDoor
open Go Go.RowKit

/-- BLOCK B IS A BUFFER of the pieces xs, whose list lies in block lb. -/
def IsBuf (w : World) (B : Nat) (lb : Option Nat) (xs : List ByteArray) : Prop :=
  ∃ v, Boxed w B 56 v ∧ Holds w.heap.size w v (sj xs) xs.length ∧ v.ownBlock = lb ∧ lb ≠ some B ∧ Full xs ∧ (text xs).length ≤ 4000
theorem IsBuf.lt {w : World} {B : Nat} {lb : Option Nat} {xs : List ByteArray} (h : IsBuf w B lb xs) : B < w.heap.size := by
  obtain ⟨v, h1, _⟩ := h
  exact h1.lt
theorem IsBuf.len {w : World} {B : Nat} {lb : Option Nat} {xs : List ByteArray} (h : IsBuf w B lb xs) : (text xs).length ≤ 4000 ∧ xs.length ≤ 4000 := by
  obtain ⟨v, _, _, _, _, h5, h6⟩ := h
  exact ⟨h6, Nat.le_trans h5.len h6⟩
/-- What turns neither the buffer's block nor its list's leaves it. -/
theorem IsBuf.kept {w w' : World} {B : Nat} {lb : Option Nat} {xs : List ByteArray} {row : Option Nat} (h : IsBuf w B lb xs) (hg : w.grownBy w' row) (h1 : some B ≠ row) (h2 : lb = none ∨ lb ≠ row) : IsBuf w' B lb xs := by
  obtain ⟨v, hv, hh, h3, h4, h5, h6⟩ := h
  refine ⟨v, hv.kept hg h1, ?_, h3, h4, h5, h6⟩
  rcases hh with e | ⟨b, off, cap, e, e1, e2, hb, hc⟩
  · exact .inl e
  · refine .inr ⟨b, off, cap, e, e1, e2, Nat.lt_of_lt_of_le hb hg.size, fun j hj => ?_⟩
    have hne : some b ≠ row := by
      have : lb = some b := by rw [← h3, e]; rfl
      rcases h2 with h | h
      · rw [h] at this; cases this
      · rw [← this]; exact h
    exact hg.cell (hc j hj) hne
theorem IsBuf.below {w w' : World} {B : Nat} {lb : Option Nat} {xs : List ByteArray} (h : IsBuf w B lb xs) (hb : Below w.heap.size w w') : IsBuf w' B lb xs :=
  h.kept (row := none) ⟨hb.os, hb.tape, hb.output, hb.size, fun k hk _ => hb.block k hk⟩ (by simp) (by cases lb <;> simp)

theorem size_b (w : World) (B : Nat) (lb : Option Nat) (xs : List ByteArray) (h : IsBuf w B lb xs) :
    Calls Tryd.prog 27 #[.pointer (some ⟨B, 0, none⟩)] w fun e W' => e = .returned (.int .i64 ((text xs).length : Int)) ∧ Below w.heap.size w W' := by
  have hl := h.len
  obtain ⟨v, hv, hh, h3, h4, h5, h6⟩ := h
  refine (callsIn_wide (n := 3)).1 ((size_in Fence.wide 3 trivial trivial trivial rfl (by omega) B v (sj xs) xs.length (by omega) (by rw [offs_all]; omega) w hv.lt hv.cell hh).mono ?_)
  rintro e W' ⟨rfl, hb⟩
  exact ⟨by rw [offs_all], hb⟩
theorem read_b (w : World) (B : Nat) (lb : Option Nat) (xs : List ByteArray) (h : IsBuf w B lb xs) (a m : Nat) (ham : a + m ≤ (text xs).length) :
    Calls Tryd.prog 29 #[.pointer (some ⟨B, 0, none⟩), .int .i64 (a : Int), .int .i64 (m : Int)] w fun e W' => e = .returned (.string ⟨(((text xs).drop a).take m).toArray⟩) ∧ Below w.heap.size w W' := by
  have hl := h.len
  obtain ⟨v, hv, hh, h3, h4, h5, h6⟩ := h
  refine (callsIn_wide (n := 3)).1 ((read_in Fence.wide 3 trivial trivial trivial rfl (by omega) B v (sj xs) xs.length (by omega) (by rw [offs_all]; omega) w hv.lt hv.cell hh a m (by rw [offs_all]; omega)).mono ?_)
  rintro e W' ⟨rfl, hb⟩
  exact ⟨by rw [got, txt_all], hb⟩
theorem split_b (w : World) (B : Nat) (lb : Option Nat) (xs : List ByteArray) (h : IsBuf w B lb xs) (a : Nat) (ha : a ≤ (text xs).length) :
    Calls Tryd.prog 34 #[.pointer (some ⟨B, 0, none⟩), .int .i64 (a : Int)] w fun e W' => ∃ (k wi : Nat) (l r : ByteArray) (hd tl : Value), e = .returned (.tuple #[hd, .string l, .string r, tl]) ∧
      k + wi ≤ xs.length ∧ Parts (sj xs) a k wi l r ∧ Holds w.heap.size w hd (sj xs) k ∧ Holds w.heap.size w tl (fun j => sj xs (k + wi + j)) (xs.length - (k + wi)) ∧ Below w.heap.size w W' := by
  have hl := h.len
  obtain ⟨v, hv, hh, h3, h4, h5, h6⟩ := h
  exact (callsIn_wide (n := 3)).1 (split_in 3 (by omega) B v (sj xs) xs.length (by omega) (by rw [offs_all]; omega) w hv.lt hv.cell hh a (by rw [offs_all]; omega))

theorem split_z (w : World) (B : Nat) (lb : Option Nat) (xs : List ByteArray) (h : IsBuf w B lb xs) (a : Nat) (ha : a ≤ (text xs).length) (z : Int) (hz : z = (a : Int)) :
    Calls Tryd.prog 34 #[.pointer (some ⟨B, 0, none⟩), .int .i64 z] w fun e W' => ∃ (k wi : Nat) (l r : ByteArray) (hd tl : Value), e = .returned (.tuple #[hd, .string l, .string r, tl]) ∧
      k + wi ≤ xs.length ∧ Parts (sj xs) a k wi l r ∧ Holds w.heap.size w hd (sj xs) k ∧ Holds w.heap.size w tl (fun j => sj xs (k + wi + j)) (xs.length - (k + wi)) ∧ Below w.heap.size w W' := by
  subst hz; exact split_b w B lb xs h a ha

theorem ownsRow_below {W W' : World} {base : Nat} {e : TypeId} {size : Nat} {v : Value} {n : Nat} {xs : List Value} (h : W.ownsRow base e size v n xs) (hb : Below W.heap.size W W') : W'.ownsRow base e size v n xs :=
  h.kept (row := none) ⟨hb.os, hb.tape, hb.output, hb.size, fun k hk _ => hb.block k hk⟩ (by cases v.ownBlock <;> simp)
theorem ownsRow_base {W : World} {base base' : Nat} {e : TypeId} {size : Nat} {v : Value} {n : Nat} {xs : List Value} (h : W.ownsRow base e size v n xs) (hb : base' ≤ base) : W.ownsRow base' e size v n xs := by
  refine ⟨h.1, ?_⟩
  rcases h.2 with h2 | ⟨g, cap, cur, hv, hg, r⟩
  · exact .inl h2
  · exact .inr ⟨g, cap, cur, hv, Nat.le_trans hb hg, r⟩
theorem ownsRow_slice {W : World} {base : Nat} {e : TypeId} {size : Nat} {v : Value} {n : Nat} {xs : List Value} (h : W.ownsRow base e size v n xs) : ∃ a l c, v = .slice a l c := by
  rcases h.2 with ⟨h2, _⟩ | ⟨g, cap, cur, hv, _⟩
  · exact ⟨_, _, _, h2⟩
  · exact ⟨_, _, _, hv⟩
/-- A slice that owns pieces holds them. -/
theorem holds_of_owns {W : World} {base : Nat} {v : Value} {L : List ByteArray} (h : W.ownsRow base 51 1 v L.length (cellsOf L)) : Holds W.heap.size W v (sj L) L.length := by
  rcases h.2 with ⟨e, h0⟩ | ⟨g, cap, cur, hv, hg, hh, h1, h2, h3, h4⟩
  · exact .inl ⟨e, h0⟩
  · refine .inr ⟨g, 0, cap, hv, h1, h2, (Array.getElem?_eq_some_iff.1 hh).1, fun j hj => ?_⟩
    rw [cell_of_row W g (0 + j) cur _ (0, 0) hh, Nat.zero_add]
    have h5 : (cur.toList.take (L.length * 1))[j]? = (cellsOf L)[j]? := by rw [h4]
    rw [List.getElem?_take, if_pos (by omega)] at h5
    rw [← Array.getElem?_toList, h5]
    simp [cellsOf, hj, sj]

/-- WHAT A SPLICE LEAVES. -/
def SpliceTo (w : World) (B : Nat) (lb : Option Nat) (xs : List ByteArray) (a m : Nat) (s : ByteArray) (W' : World) : Prop :=
  ∃ lb' xs', IsBuf W' B lb' xs' ∧ text xs' = (text xs).take a ++ s.data.toList ++ (text xs).drop (a + m) ∧ xs'.length ≤ xs.length + 2 ∧ w.grownBy W' (some B) ∧ (lb' = lb ∨ ∀ k, lb' = some k → w.heap.size ≤ k)

set_option maxHeartbeats 4000000 in
set_option maxRecDepth 100000 in
/-- p.splice(at, 0, ""): nothing. -/
theorem splice_none (w : World) (B : Nat) (lb : Option Nat) (xs : List ByteArray) (h : IsBuf w B lb xs) (a : Nat) :
    Calls Tryd.prog 28 #[.pointer (some ⟨B, 0, none⟩), .int .i64 (a : Int), .int .i64 ((0 : Nat) : Int), .string ⟨#[]⟩] w fun e W' => (∃ v, e = .returned v) ∧ SpliceTo w B lb xs a 0 ⟨#[]⟩ W' := by
  have HP : Hid (SpliceTo w B lb xs a 0 ⟨#[]⟩ w) := ⟨lb, xs, h, by simp, by omega, ⟨rfl, rfl, rfl, Nat.le_refl _, fun _ _ _ => rfl⟩, .inl rfl⟩
  clear h
  go_enter Tryd.func28, Tryd.ntmps28
  go_wp2
  refine bodyPost_ret (results_none rfl _ _ _) rfl ?_
  exact ⟨⟨_, rfl⟩, HP.out⟩

set_option maxHeartbeats 8000000 in
set_option maxRecDepth 100000 in
/-- p.splice(at, n, s), where there is something to do. -/
theorem splice_some (w : World) (B : Nat) (lb : Option Nat) (xs : List ByteArray) (h : IsBuf w B lb xs) (a m : Nat) (s : ByteArray) (ham : a + m ≤ (text xs).length) (hfit : (text xs).length - m + s.size ≤ 4000) (hz : ¬ (m = 0 ∧ s.size = 0)) :
    Calls Tryd.prog 28 #[.pointer (some ⟨B, 0, none⟩), .int .i64 (a : Int), .int .i64 (m : Int), .string s] w fun e W' => (∃ v, e = .returned v) ∧ SpliceTo w B lb xs a m s W' := by
  have hl := h.len
  have hBl := h.lt
  have hss : s.size ≤ 4000 := by omega
  obtain ⟨i0, hi, hz0, hz1, hz2⟩ := info_parts Tryd.infoPiece
  have H := Lib.hid h
  have hlx := hl.2
  have hlt := hl.1
  have hf : Full xs := by obtain ⟨v, _, _, _, _, h5, _⟩ := h; exact h5
  clear hl h
  have hcase : (((m : Int) == 0) = false) ∨ ((((m : Int) == 0) = true) ∧ s.toList.isEmpty = false) := by
    by_cases hm : m = 0
    · refine .inr ⟨by simp [hm], ?_⟩
      cases hs : s.toList with
      | nil => exact absurd ⟨hm, by rw [Lib.size_eq, ← ByteArray.toList_eq, hs]; rfl⟩ hz
      | cons x l => rfl
    · exact .inl (by simp; omega)
  clear hz
  rcases hcase with hm | ⟨hm, hsl⟩
  all_goals
    go_enter Tryd.func28, Tryd.ntmps28
    go_wp2_with fail
    refine (split_z _ B lb xs H.out a (by omega) _ rfl).mono ?_
    rintro e w1 ⟨k1, wi1, l1, r1, hd1, tl1, rfl, hk1, hp1, hh1, _, hb1⟩
    have H1 := Lib.hid (H.out.below hb1)
    have hs1 := hb1.size
    have A1 := Lib.hid (And.intro hk1 (And.intro hp1 (And.intro hh1 hb1)))
    have hl1 : l1.size ≤ 4000 := by
      have := congrArg List.length (parts_head hp1 hk1)
      rw [List.length_append, List.length_take, ← Lib.size_eq] at this; omega
    have hk1' : k1 ≤ 4000 := by omega
    clear hk1 hp1 hh1 hb1
    go_wp2_with fail
    refine (split_z _ B lb xs H1.out (a + m) (by omega) _ (by omega)).mono ?_
    rintro e w2 ⟨k2, wi2, l2, r2, hd2, tl2, rfl, hk2, hp2, _, hh2, hb2⟩
    have H2 := Lib.hid (H1.out.below hb2)
    have hs2 := hb2.size
    have A2 := Lib.hid (And.intro hk2 (And.intro hp2 (And.intro hh2 hb2)))
    have hr2 : r2.size ≤ 4000 := by
      have := congrArg List.length (parts_tail hp2 hk2)
      rw [List.length_append, List.length_drop, ← Lib.size_eq] at this; omega
    have hk2' : k2 + wi2 ≤ 4000 := by omega
    clear hk2 hp2 hh2 hb2
    obtain ⟨v, hv, hh, _⟩ := H2.out
    obtain ⟨a0, c0, hvv⟩ : ∃ a0 c0, v = .slice a0 xs.length c0 := by
      rcases hh with ⟨e, e0⟩ | ⟨b, off, cap, e, _⟩
      · exact ⟨none, 0, by rw [e, e0]⟩
      · exact ⟨_, cap, e⟩
    subst hvv
    have cB := hv.cell
    have HV := Lib.hid hv
    clear hv hh
    go_wp2_with (at_make; refine wpList_make_own _ rfl (.const (.int .i64 0)) (.tmp 46) 48 rfl w2.heap.size 51 i0 (.agg #[.string ⟨#[]⟩]) 1 Tryd.underlying48 hi hz0 hz1 .i64 .i64 _ (xs.length + 2) rfl rfl (by omega) (by rw [hz2]; omega) (by unfold maxLen; omega) (Nat.le_refl _) ?_; intro w3 hown3 hg3; have HO3 := Lib.hid hown3; have HG3 := Lib.hid hg3; clear hown3 hg3)
    have hb3 : Below w2.heap.size w2 w3 := (Below.refl _ _).grown HG3.out (Nat.le_refl _) (fun k e => by cases e)
    have hs3 := hb3.size
    have HB3 := Lib.hid hb3
    clear hb3
    refine (join_any w2.heap.size _ hd1 [] (sj xs) k1 (by simp; omega) w3 HO3.out hs3 ?_).mono ?_
    · obtain ⟨_, _, hh1, hb1⟩ := A1.out
      obtain ⟨_, _, _, hb2⟩ := A2.out
      have h13 : Below w.heap.size w w3 := hb1.trans ((hb2.mono hs1).trans (HB3.out.mono (by omega)))
      exact (hh1.below h13 (Nat.le_refl _)).reads (fun k e => by cases e; show w.heap.size ≤ w2.heap.size; omega) (by omega)
    rintro e w4 ⟨v1, rfl, ho4, hb4⟩
    have hs4 := hb4.size
    have HO4 := Lib.hid ho4
    have HB4 := Lib.hid hb4
    clear ho4 hb4
    go_wp2_with fail
    refine (own_any l1 _ (by omega)).mono ?_
    rintro e w5 ⟨rfl, hb5⟩
    have hs5 := hb5.size
    have HB5 := Lib.hid hb5
    clear hb5
    go_wp2_with fail
    refine (own_any s _ (by omega)).mono ?_
    rintro e w6 ⟨rfl, hb6⟩
    have hs6 := hb6.size
    have HB6 := Lib.hid hb6
    clear hb6
    go_wp2_with fail
    refine (own_any r2 _ (by omega)).mono ?_
    rintro e w7 ⟨rfl, hb7⟩
    have hs7 := hb7.size
    have HB7 := Lib.hid hb7
    clear hb7
    go_wp2_with fail
    have HO7 : Hid (w7.ownsRow w2.heap.size 51 1 v1 ([] ++ keep (sj xs) k1).length (cellsOf ([] ++ keep (sj xs) k1))) := ownsRow_below (ownsRow_below (ownsRow_below HO4.out HB5.out) HB6.out) HB7.out
    have hkl := keep_len (sj xs) k1
    refine (join_any w2.heap.size v1 _ ([] ++ keep (sj xs) k1) (sj [l1, s, r2]) 3 (by simp; omega) _ (HO7.out.alloc _) (by simp; omega) ?_).mono ?_
    · refine .inr ⟨w7.heap.size, 0, 3, rfl, Nat.le_refl _, by unfold maxLen; omega, by simp, ?_, fun j hj => ?_⟩
      · intro e
        have := (HO7.out.lt _ e.symm).2
        omega
      · have h9 := World.alloc_heap_new w7 (.cells #[.string l1, .string s, .string r2] 51)
        rw [cell_of_row _ _ _ _ _ (0, 0) h9, Nat.zero_add]
        match j, hj with
        | 0, _ => rfl
        | 1, _ => rfl
        | 2, _ => rfl
    rintro e w8 ⟨v2, rfl, ho8, hb8⟩
    have hs8 := hb8.size
    rw [World.size_alloc] at hs8
    have HO8 := Lib.hid ho8
    have HB8 := Lib.hid hb8
    clear ho8 hb8
    go_wp2_with fail
    have HB28 : Hid (Below w2.heap.size w2 w8) := HB3.out.trans (HB4.out.trans ((HB5.out.mono (by omega)).trans ((HB6.out.mono (by omega)).trans ((HB7.out.mono (by omega)).trans (((Below.refl _ w7).alloc (by omega) _).trans HB8.out)))))
    have hkl3 := keep_len (sj [l1, s, r2]) 3
    refine (join_any w2.heap.size v2 _ ([] ++ keep (sj xs) k1 ++ keep (sj [l1, s, r2]) 3) (fun j => sj xs (k2 + wi2 + j)) (xs.length - (k2 + wi2)) (by simp; omega) w8 HO8.out (by omega) ?_).mono ?_
    · obtain ⟨_, _, hh2, hb2⟩ := A2.out
      exact (hh2.below (hb2.trans (HB28.out.mono hs2)) (Nat.le_refl _)).reads (fun k e => by have := (HO8.out.lt k e).1; omega) (by omega)
    rintro e w9 ⟨v3, he9, ho9, hb9⟩
    obtain ⟨a3, l3, c3, rfl⟩ := ownsRow_slice ho9
    subst he9
    have hs9 := hb9.size
    have HO9 := Lib.hid ho9
    have HB9 := Lib.hid hb9
    have hv9 := boxed_below (boxed_below HV.out HB28.out (by omega)) hb9 (by omega)
    have c9 := hv9.cell
    have f9 := hv9.frozen
    have HV9 := Lib.hid hv9
    clear ho9 hb9 hv9
    have HF : Hid (SpliceTo w B lb xs a m s (w9.setCell ⟨B, 0, none⟩ (.slice a3 l3 c3))) := by
      obtain ⟨hk1, hp1, hh1, hb1⟩ := A1.out
      obtain ⟨hk2, hp2, hh2, hb2⟩ := A2.out
      have hb09 : Below w.heap.size w w9 := hb1.trans ((hb2.mono hs1).trans ((HB28.out.mono (by omega)).trans (HB9.out.mono (by omega))))
      have ho9 := HO9.out
      have e1 : [] ++ keep (sj xs) k1 ++ keep (sj [l1, s, r2]) 3 ++ keep (fun j => sj xs (k2 + wi2 + j)) (xs.length - (k2 + wi2)) = spliced xs k1 l1 s r2 (k2 + wi2) := by
        rw [List.nil_append, keep_take xs hf k1 (by omega), keep_drop xs hf (k2 + wi2)]; rfl
      rw [e1] at ho9
      have hrow : ∀ k, (Value.slice a3 l3 c3).ownBlock = some k → w2.heap.size ≤ k := fun k e => (ho9.lt k e).1
      have ht : text (spliced xs k1 l1 s r2 (k2 + wi2)) = (text xs).take a ++ s.data.toList ++ (text xs).drop (a + m) := by
        rw [spliced_text, parts_head hp1 hk1, parts_tail hp2 hk2]
      refine ⟨(Value.slice a3 l3 c3).ownBlock, spliced xs k1 l1 s r2 (k2 + wi2), ⟨.slice a3 l3 c3, HV9.out.set (.slice a3 l3 c3), ?_, rfl, fun e => by have := hrow B e; omega, spliced_full hf _ _ _ _ _, ?_⟩, ht, spliced_len hf hp1 hp2 hk1 hk2 (by omega), ?_, .inr (fun k e => by have := hrow k e; omega)⟩
      · have hh9 := holds_of_owns ho9
        have hb : (w9.setCell ⟨B, 0, none⟩ (.slice a3 l3 c3)).ownsRow w2.heap.size 51 1 (.slice a3 l3 c3) (spliced xs k1 l1 s r2 (k2 + wi2)).length (cellsOf (spliced xs k1 l1 s r2 (k2 + wi2))) :=
          ho9.kept (grownBy_setCell' w9 B (.slice a3 l3 c3)) (.inr (fun e => by have := hrow B e; omega))
        exact holds_of_owns hb
      · rw [ht, List.length_append, List.length_append, List.length_take, List.length_drop, ← Lib.size_eq]; omega
      · exact ⟨hb09.os, hb09.tape, hb09.output, Nat.le_trans hb09.size (KeepsOthers.setCell w9 _ _).size, fun k hk hne => (Below.heap_setCell w9 _ _ _ (fun e => hne (by rw [e]))).trans (hb09.block k hk)⟩
    clear HO9 HB9 HV9 HO8 HB8 HO7 HB28 HB7 HB6 HB5 HB4 HO4 HB3 HG3 HO3 A1 A2 H1 H2 H HV hkl hkl3 hf hs1 hs2 hs3 hs4 hs5 hs6 hs7 hs8 hs9
    go_wp2
    go_end0
    exact ⟨⟨_, rfl⟩, HF.out⟩
end Go.Proofs.YtajbcaggpfopnaaDoor
