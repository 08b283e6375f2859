/- Merged by gen/ar_merge.py: ArBld, ArRune, ArDec. -/
import Derived.Test.YteclpoooggcdoaaGreatDoorArA
import Derived.Test.YteclpoooggcdoaaGreatDoorShelf
import Derived.Lib.Strings
import Derived.Lib.Slices
import Derived.Lib.Walk
import Derived.Lib.Builder
import Derived.Lib.AppendStr
import Derived.Lib.UnsafeStr
import Derived.WalkKit
import Derived.Laws.Externs
import Derived.Laws.IdiomCopy
import Derived.Laws.BitsLemmas
import Derived.Deep.AppendLies
import Derived.Test.YteclpoooggcdoaaGreatDoorNuD
import Derived.Test.YteclpoooggcdoaaGreatDoorRgA
import Derived.WalkSmall
import Derived.Lib.LaidTab
/- A strings.Builder: written byte by byte, text by text, rune by rune (out of XLxText, XLxTextC). -/
namespace Go.Proofs.YteclpoooggcdoaaGreatDoor.Ar
open Go Go.RowKit Go.Shelf

theorem b_size : (Tryz.prog.info? 78).map (·.size) = some 2 := by kernel_rfl
theorem b_lies : liesAt Tryz.prog Tryz.prog.depth 78 (2 / Tryz.prog.cellsOf 78) 0 78 1 = true := by kernel_rfl
theorem b_byte : (Tryz.prog.info? 5).map (fun i => (i.zero, i.size, i.bytes)) = some (some (.int .u8 0), 1, 1) := by kernel_rfl
theorem byte_parts : ∃ i, Tryz.prog.info? 5 = some i ∧ i.zero = some (.int .u8 0) ∧ i.size = 1 ∧ i.bytes = 1 := by
  have h := b_byte
  cases hi : Tryz.prog.info? 5 with
  | none => rw [hi] at h; cases h
  | some i =>
    rw [hi] at h
    simp at h
    exact ⟨i, rfl, h.1, h.2.1, h.2.2⟩

set_option maxHeartbeats 1000000 in
set_option maxRecDepth 100000 in
theorem check_used (b : Nat) (w : World) (h0 : w.cell? ⟨b, 0, none⟩ = some (.pointer (some ⟨b, 0, none⟩))) :
    Calls Tryz.prog 87 #[.pointer (some ⟨b, 0, none⟩)] w fun e w' => e = .returned (.tuple #[]) ∧ w' = w := by
  obtain ⟨j, hj, _⟩ := Option.map_eq_some_iff.1 b_size
  go_enter Tryz.func87, Tryz.ntmps87
  go_wp2
  rw [Lib.run_neq_ptr_same w _ Tryz.underlying75 hj]
  go_wp2
  go_end0
  exact ⟨rfl, rfl⟩

set_option maxHeartbeats 1000000 in
set_option maxRecDepth 100000 in
theorem check_fresh (b : Nat) (w : World) (h0 : w.cell? ⟨b, 0, none⟩ = some (.pointer none)) (hsh : w.shape? b = some (78, 2)) (hfz : w.frozen? ⟨b, 0, none⟩ = false) :
    Calls Tryz.prog 87 #[.pointer (some ⟨b, 0, none⟩)] w fun e w' => e = .returned (.tuple #[]) ∧ w' = w.setCell ⟨b, 0, none⟩ (.pointer (some ⟨b, 0, none⟩)) := by
  obtain ⟨j, hj, hjs⟩ := Option.map_eq_some_iff.1 b_size
  go_enter Tryz.func87, Tryz.ntmps87
  go_wp2
  rw [Lib.run_to_unsafe w ⟨b, 0, none⟩ Tryz.underlying75 Tryz.underlying92 hj (by rw [hjs]; decide) hsh (Nat.zero_lt_succ 1)]
  simp only [Result.andThen]
  rw [Oper.upon_value]
  go_wp2
  rw [run_callFunc_extern Tryz.func97 (by kernel_rfl) (by kernel_rfl) (by kernel_rfl) (e := Extern.AbiNoEscape.same) (by kernel_rfl)]
  rw [Lib.run_noEscape]
  simp only [Result.andThen]
  rw [Oper.upon_value]
  go_wp2
  rw [Lib.run_from_unsafe w ⟨b, 0, none⟩ Tryz.underlying92 Tryz.underlying75 hj hsh b_lies]
  simp only [Result.andThen]
  rw [Oper.upon_value]
  go_wp2
  go_end0
  exact ⟨rfl, rfl⟩

abbrev IsB (B b : Nat) (l : List Value) (w : World) : Prop := Lib.IsBuilder 78 5 B b l w
theorem check_c (B b : Nat) (l : List Value) (w : World) (h : IsB B b l w) :
    Calls Tryz.prog 87 #[.pointer (some ⟨b, 0, none⟩)] w fun e w' => e = .returned (.tuple #[]) ∧ (Lib.BuilderAt 78 5 B b (.pointer (some ⟨b, 0, none⟩)) l w' ∧ Below B w w') := by
  rcases h with h | h
  · refine (check_fresh b w h.cell0 h.shape h.frozen0).mono ?_
    rintro e w' ⟨rfl, rfl⟩
    exact ⟨rfl, h.used _, (Below.refl B w).setCell (p := ⟨b, 0, none⟩) h.1 _⟩
  · refine (check_used b w h.cell0).mono ?_
    rintro e w' ⟨rfl, rfl⟩
    exact ⟨rfl, h, Below.refl B _⟩

set_option maxHeartbeats 2000000 in
set_option maxRecDepth 100000 in
theorem write_c (B b : Nat) (l : List Value) (s : ByteArray) (w : World) (h : IsB B b l w) (hlen : l.length + s.size ≤ 140737488355328) (hBw : B ≤ w.heap.size) :
    Calls Tryz.prog 72 #[.pointer (some ⟨b, 0, none⟩), .string s] w fun e w' => e = .returned (.tuple #[.int .i64 s.size, .nilIface]) ∧ IsB B b (l ++ Lib.strCells s) w' ∧ Below B w w' := by
  obtain ⟨i0, hi, hz0, hz1, hz2⟩ := byte_parts
  go_enter Tryz.func72, Tryz.ntmps72
  go_wp2_with fail
  refine (check_c B b l _ h).mono ?_
  rintro e w1 ⟨rfl, h1, hb1⟩
  obtain ⟨hB, v, hbk, hown, hne⟩ := h1
  have c0 : w1.cell? ⟨b, 0, none⟩ = some (.pointer (some ⟨b, 0, none⟩)) := by rw [Lib.cell_of_heap hbk]; rfl
  have c1 : w1.cell? ⟨b, 1, none⟩ = some v := by rw [Lib.cell_of_heap hbk]; rfl
  go_wp2_with (at_builtin; refine Lib.wpList_append_own_string _ rfl _ _ 76 9 rfl B 5 i0 Tryz.underlying76 Tryz.underlying9 hi hz0 hz1 hz2 _ _ _ rfl hown s rfl ?c3 ?c4 ?c5 ?_)
  case c3 => unfold maxLen; omega
  case c4 => omega
  case c5 => have := hb1.size; omega
  intro v' w2 hown' hgrow _
  have hlt : b < w1.heap.size := by
    rcases Nat.lt_or_ge b w1.heap.size with h' | h'
    · exact h'
    · simp [Array.getElem?_eq_none h'] at hbk
  have hb2 : w2.heap[b]? = some (.cells #[.pointer (some ⟨b, 0, none⟩), v] 78 (0, 0)) := by
    rw [hgrow.block b hlt (fun e => hne e.symm)]
    exact hbk
  have d0 : w2.cell? ⟨b, 0, none⟩ = some (.pointer (some ⟨b, 0, none⟩)) := by rw [Lib.cell_of_heap hb2]; rfl
  have d1 : w2.cell? ⟨b, 1, none⟩ = some v := by rw [Lib.cell_of_heap hb2]; rfl
  have f1 : w2.frozen? ⟨b, 1, none⟩ = false := Lib.frozen_of_heap hb2 1
  obtain ⟨ao, n', cap, rfl⟩ : ∃ ao n' cap, v' = .slice ao n' cap := by
    rcases hown'.2 with ⟨hv, _⟩ | ⟨g, cap, cur, hv, _⟩
    · exact ⟨_, _, _, hv⟩
    · exact ⟨_, _, _, hv⟩
  go_wp2
  go_ret2
  refine ⟨rfl, .inr ?_, ?_⟩
  · exact Lib.BuilderAt.put (T := 78) (e := 5) hB hb2 (bs' := l ++ Lib.strCells s) (by simpa [Lib.strCells_length] using hown') (by decide)
  · exact (hb1.grown hgrow (by have := hb1.size; omega) (fun k hk => (hown.lt k hk).1)).setCell (p := ⟨b, 1, none⟩) hB _
theorem isB_alloc {B b : Nat} {l : List Value} {w : World} (h : IsB B b l w) (o : Obj) : IsB B b l (w.alloc o) := by
  have go : ∀ p, Lib.BuilderAt 78 5 B b p l w → Lib.BuilderAt 78 5 B b p l (w.alloc o) := fun p h => by
    obtain ⟨hB, v, hb, hown, hne⟩ := h
    have hlt : b < w.heap.size := Lib.BuilderAt.lt (T := 78) (e := 5) ⟨hB, v, hb, hown, hne⟩
    exact ⟨hB, v, (Below.heap_alloc w o b hlt).trans hb, hown.alloc o, hne⟩
  rcases h with h | h
  · exact .inl (go _ h)
  · exact .inr (go _ h)
theorem isB_new (w : World) : IsB w.heap.size w.heap.size [] (w.alloc (.cells #[.pointer none, .slice none 0 0] 78)) :=
  .inl ⟨Nat.le_refl _, .slice none 0 0, World.alloc_heap_new w _, World.ownsRow_nil _ _ _ _, by simp [Value.ownBlock]⟩

set_option maxHeartbeats 2000000 in
set_option maxRecDepth 100000 in
theorem byte_c (B b : Nat) (l : List Value) (x : Int) (w : World) (h : IsB B b l w) (hlen : l.length + 1 ≤ 140737488355328) (hBw : B ≤ w.heap.size) :
    Calls Tryz.prog 69 #[.pointer (some ⟨b, 0, none⟩), .int .u8 x] w fun e w' => e = .returned .nilIface ∧ IsB B b (l ++ [.int .u8 x]) w' ∧ Below B w w' := by
  obtain ⟨i0, hi, hz0, hz1, hz2⟩ := byte_parts
  go_enter Tryz.func69, Tryz.ntmps69
  go_wp2_with fail
  refine (check_c B b l _ h).mono ?_
  rintro e w1 ⟨rfl, h1, hb1⟩
  obtain ⟨hB, v, hbk, hown, hne⟩ := h1
  have c0 : w1.cell? ⟨b, 0, none⟩ = some (.pointer (some ⟨b, 0, none⟩)) := by rw [Lib.cell_of_heap hbk]; rfl
  have c1 : w1.cell? ⟨b, 1, none⟩ = some v := by rw [Lib.cell_of_heap hbk]; rfl
  have H1 : ∀ (j : Nat) (u : Value), [Value.int .u8 x][j]? = some u → (w1.alloc (.cells #[.int .u8 x] 5)).cell? ((⟨w1.heap.size, 0, none⟩ : Addr).add j) = some u := World.news_of_block (World.alloc_heap_new w1 (.cells #[.int .u8 x] 5))
  go_wp2_with (at_builtin; refine wpList_append_own _ rfl (.tmp 11) (.tmp 13) 76 rfl B 5 i0 (.int .u8 0) 1 1 Tryz.underlying76 hi hz0 hz1 hz2 rfl (by decide) v l.length l rfl (hown.alloc _) ⟨w1.heap.size, 0, none⟩ 1 1 [.int .u8 x] rfl rfl H1 (by simp [Value.oneCell']) ?c3 ?c4 ?c5 ?_)
  case c3 => unfold maxLen; omega
  case c4 => omega
  case c5 => have := hb1.size; rw [World.size_alloc]; omega
  intro v' w2 hown' hgrow _
  have hlt : b < w1.heap.size := by
    rcases Nat.lt_or_ge b w1.heap.size with h' | h'
    · exact h'
    · simp [Array.getElem?_eq_none h'] at hbk
  have hb2 : w2.heap[b]? = some (.cells #[.pointer (some ⟨b, 0, none⟩), v] 78 (0, 0)) := by
    rw [hgrow.block b (by rw [World.size_alloc]; omega) (fun e => hne e.symm), Below.heap_alloc w1 _ b hlt]
    exact hbk
  have d0 : w2.cell? ⟨b, 0, none⟩ = some (.pointer (some ⟨b, 0, none⟩)) := by rw [Lib.cell_of_heap hb2]; rfl
  have d1 : w2.cell? ⟨b, 1, none⟩ = some v := by rw [Lib.cell_of_heap hb2]; rfl
  have f1 : w2.frozen? ⟨b, 1, none⟩ = false := Lib.frozen_of_heap hb2 1
  obtain ⟨ao, n', cap, rfl⟩ : ∃ ao n' cap, v' = .slice ao n' cap := by
    rcases hown'.2 with ⟨hv, _⟩ | ⟨g, cap, cur, hv, _⟩
    · exact ⟨_, _, _, hv⟩
    · exact ⟨_, _, _, hv⟩
  go_wp2
  go_ret
  refine ⟨rfl, .inr ?_, ?_⟩
  · exact Lib.BuilderAt.put (T := 78) (e := 5) hB hb2 (bs' := l ++ [.int .u8 x]) (by simpa using hown') (by decide)
  · exact ((hb1.alloc (by have := hb1.size; omega) _).grown hgrow (by rw [World.size_alloc]; have := hb1.size; omega) (fun k hk => (hown.lt k hk).1)).setCell (p := ⟨b, 1, none⟩) hB _
end Go.Proofs.YteclpoooggcdoaaGreatDoor.Ar
/- A rune of one byte is written. -/
namespace Go.Proofs.YteclpoooggcdoaaGreatDoor.Ar
open Go Go.RowKit Go.Shelf

set_option maxHeartbeats 2000000 in
set_option maxRecDepth 100000 in
theorem appendRune_c (B : Nat) (v : Value) (l : List Value) (r : Int) (w : World) (hown : w.ownsRow B 5 1 v l.length l) (hlen : l.length + 1 ≤ 140737488355328) (hBw : B ≤ w.heap.size) (h0 : 0 ≤ r) (h1 : r ≤ 127) :
    Calls Tryz.prog 88 #[v, .int .i32 r] w fun e w' => ∃ v', e = .returned v' ∧ w'.ownsRow B 5 1 v' (l.length + 1) (l ++ [.int .u8 r]) ∧ Below B w w' ∧ ∀ k, k < w.heap.size → v.ownBlock ≠ some k → w'.heap[k]? = w.heap[k]? := by
  obtain ⟨i0, hi, hz0, hz1, hz2⟩ := byte_parts
  have H1 : ∀ (j : Nat) (u : Value), [Value.int .u8 r][j]? = some u → (w.alloc (.cells #[.int .u8 r] 5)).cell? ((⟨w.heap.size, 0, none⟩ : Addr).add j) = some u := World.news_of_block (World.alloc_heap_new w (.cells #[.int .u8 r] 5))
  have e1 : IntKind.u32.wrap r = r := by rw [IntKind.wrap_u32]; omega
  have e2 : IntKind.u8.wrap r = r := by rw [IntKind.wrap_u8]; omega
  go_enter Tryz.func88, Tryz.ntmps88
  go_wp2_with (at_builtin; refine wpList_append_own _ rfl (.tmp 8) (.tmp 11) 76 rfl B 5 i0 (.int .u8 0) 1 1 Tryz.underlying76 hi hz0 hz1 hz2 rfl (by decide) v l.length l rfl (hown.alloc _) ⟨w.heap.size, 0, none⟩ 1 1 [.int .u8 r] rfl rfl H1 (by simp [Value.oneCell']) ?c3 ?c4 ?c5 ?_)
  case c3 => unfold maxLen; omega
  case c4 => omega
  case c5 => rw [World.size_alloc]; omega
  intro v' w2 hown' hgrow _
  go_wp2
  go_ret
  refine ⟨v', rfl, hown', ((Below.refl _ _).alloc hBw _).grown hgrow (by rw [World.size_alloc]; omega) (fun k hk => (hown.lt k hk).1), fun k hk hne => ?_⟩
  rw [hgrow.block k (by rw [World.size_alloc]; omega) (fun e => hne e.symm), Below.heap_alloc w _ k hk]
set_option maxHeartbeats 2000000 in
set_option maxRecDepth 100000 in
theorem rune_c (B b : Nat) (l : List Value) (r : Int) (w : World) (h : IsB B b l w) (hlen : l.length + 1 ≤ 140737488355328) (hBw : B ≤ w.heap.size) (h0 : 0 ≤ r) (h1 : r ≤ 127) :
    Calls Tryz.prog 70 #[.pointer (some ⟨b, 0, none⟩), .int .i32 r] w fun e w' => (∃ n, e = .returned (.tuple #[.int .i64 n, .nilIface])) ∧ IsB B b (l ++ [.int .u8 r]) w' ∧ Below B w w' := by
  go_enter Tryz.func70, Tryz.ntmps70
  go_wp2_with fail
  refine (check_c B b l _ h).mono ?_
  rintro e w1 ⟨rfl, h2, hb1⟩
  obtain ⟨hB, v, hbk, hown, hne⟩ := h2
  have c0 : w1.cell? ⟨b, 0, none⟩ = some (.pointer (some ⟨b, 0, none⟩)) := by rw [Lib.cell_of_heap hbk]; rfl
  have c1 : w1.cell? ⟨b, 1, none⟩ = some v := by rw [Lib.cell_of_heap hbk]; rfl
  have hlt : b < w1.heap.size := by
    rcases Nat.lt_or_ge b w1.heap.size with h' | h'
    · exact h'
    · simp [Array.getElem?_eq_none h'] at hbk
  obtain ⟨va, vn, vc, rfl⟩ : ∃ va vn vc, v = .slice va vn vc := by
    rcases hown.2 with ⟨hv, _⟩ | ⟨g, cap, cur, hv, _⟩
    · exact ⟨_, _, _, hv⟩
    · exact ⟨_, _, _, hv⟩
  have HAP := Lib.hid (appendRune_c B (.slice va vn vc) l r w1 hown hlen (Nat.le_trans hBw hb1.size) h0 h1)
  have HBK : Hid (∀ w2 : World, (∀ k, k < w1.heap.size → (Value.slice va vn vc).ownBlock ≠ some k → w2.heap[k]? = w1.heap[k]?) → w2.heap[b]? = some (.cells #[.pointer (some ⟨b, 0, none⟩), .slice va vn vc] 78 (0, 0))) := Lib.hid (fun w2 h => (h b hlt hne).trans hbk)
  have HB1 := Lib.hid hb1
  have HBB := Lib.hid hB
  clear hown hne hbk hB hb1 h
  go_wp2_with (go_at_call 88; refine HAP.out.mono ?_; rintro e w2 ⟨v', rfl, hown', hb2, hk2⟩; have hq := HBK.out w2 hk2; have HQ := Lib.hid hq; have d0 : w2.cell? ⟨b, 0, none⟩ = some (.pointer (some ⟨b, 0, none⟩)) := (by rw [Lib.cell_of_heap hq]; rfl); have d1 : w2.cell? ⟨b, 1, none⟩ = some (.slice va vn vc) := (by rw [Lib.cell_of_heap hq]; rfl); have f1 : w2.frozen? ⟨b, 1, none⟩ = false := Lib.frozen_of_heap hq 1; obtain ⟨ao, n', cap, rfl⟩ : ∃ ao n' cap, v' = .slice ao n' cap := (by rcases hown'.2 with ⟨hv, _⟩ | ⟨g, cap, cur, hv, _⟩; exact ⟨_, _, _, hv⟩; exact ⟨_, _, _, hv⟩); have HO := Lib.hid hown'; have HB2 := Lib.hid hb2; clear hown' hb2 hk2 hq)
  go_ret2
  refine ⟨⟨_, rfl⟩, .inr ?_, ?_⟩
  · exact Lib.BuilderAt.put (T := 78) (e := 5) HBB.out HQ.out (bs' := l ++ [.int .u8 r]) (by simpa using HO.out) (by decide)
  · exact (HB1.out.trans HB2.out).setCell (p := ⟨b, 1, none⟩) HBB.out _
end Go.Proofs.YteclpoooggcdoaaGreatDoor.Ar
/- The ground of array; a number's digits, and those of some numbers. -/
namespace Go.Proofs.YteclpoooggcdoaaGreatDoor.Ar
open Go Go.RowKit Go.Shelf Go.Sort
attribute [local go_sem] Oper.semAt_some

theorem pow_at : Tryz.prog.globalNamed "internal/strconv.uint64pow10" = some 4 := by kernel_rfl
/-- What array stands on. -/
structure AG (W : World) : Prop where
  ng : Nu.NG W
  mx : ∃ m : Int, W.cell? ⟨1, 0, none⟩ = some (.int .i64 m)
  tab : Lib.TabIs Tryz.prog W "internal/strconv.uint64pow10" .u64 Lib.pow10Tab
  lt : 4 < W.heap.size
theorem AG.below {W W' : World} (h : AG W) (hb : Below W.heap.size W W') : AG W' := by
  obtain ⟨m, hm⟩ := h.mx
  have hl := World.block_lt_of_cell? W _ hm
  exact ⟨h.ng.below hb, ⟨m, (hb.cell (p := ⟨1, 0, none⟩) hl).trans hm⟩, var?_below hb pow_at h.lt h.tab, Nat.lt_of_lt_of_le h.lt hb.size⟩
theorem below_grow (w : World) (k : Nat) (os : Array Obj) : Below w.heap.size w (grow (w.drewN k) os) := by
  refine ⟨rfl, rfl, rfl, ?_, fun i hi => ?_⟩
  · show w.heap.size ≤ (w.heap ++ os).size
    simp
  · show (w.heap ++ os)[i]? = w.heap[i]?
    rw [Array.getElem?_append_left hi]
theorem below_drewN (w : World) (k : Nat) : Below w.heap.size w (w.drewN k) := ⟨rfl, rfl, rfl, Nat.le_refl _, fun _ _ => rfl⟩
/-- A number's digits, the language's sign ahead. -/
def decT (n : Int) : List UInt8 := Lib.replace (Lib.itoa n) [45] [194, 175] 1
set_option maxRecDepth 100000 in
theorem format_c (n : Int) (hn : Nu.In n) (w : World) (hG : AG w) : Calls Tryz.prog 90 #[.int .i64 n, .int .i64 10] w fun e w' => e = .returned (.string ⟨(Lib.itoa n).toArray⟩) ∧ Below w.heap.size w w' := by
  have HF := Lib.hid (Tryz.internal_strconv_FormatInt_10 n hn.1 hn.2 w hG.tab)
  clear hG
  go_enter Tryz.func90, Tryz.ntmps90
  go_wp2_with (go_at_call 103; refine HF.out.mono ?_; rintro e w' ⟨rfl, k, os, hw⟩; have HW := Lib.hid hw; clear hw)
  go_ret
  exact ⟨rfl, by rw [HW.out]; exact below_grow _ _ _⟩
set_option maxRecDepth 100000 in
theorem decimal_c (n : Int) (hn : Nu.In n) (w : World) (hG : AG w) (hc : (Lib.itoa n).length ≤ 100 ∧ Lib.countB ⟨(Lib.itoa n).toArray⟩ ⟨#[45]⟩ ≤ 100) : Calls Tryz.prog 73 #[.int .i64 n] w fun e w' => e = .returned (.string ⟨(decT n).toArray⟩) ∧ Below w.heap.size w w' := by
  have HF := Lib.hid (format_c n hn w hG)
  have HR : Hid (∀ W, Below w.heap.size w W → Calls Tryz.prog 89 #[.string ⟨(Lib.itoa n).toArray⟩, .string ⟨#[45]⟩, .string ⟨#[194, 175]⟩, .int .i64 1] W fun e w' => e = .returned (.string ⟨(decT n).toArray⟩) ∧ Below W.heap.size W w') := Lib.hid (fun W hb => by
    obtain ⟨m, hm⟩ := (hG.below hb).mx
    have hz : (⟨(Lib.itoa n).toArray⟩ : ByteArray).size = (Lib.itoa n).length := by rw [Lib.size_eq]
    have h := Tryz.strings_Replace ⟨(Lib.itoa n).toArray⟩ ⟨#[45]⟩ ⟨#[194, 175]⟩ 1 m W (by rw [hz]; omega) hm (by decide) (by
      rw [hz]
      have : (⟨#[194, 175]⟩ : ByteArray).size = 2 := rfl
      rw [this]
      omega)
    exact h)
  obtain ⟨t, ht⟩ : ∃ t, t = Lib.itoa n := ⟨_, rfl⟩
  obtain ⟨u, hu⟩ : ∃ u, u = decT n := ⟨_, rfl⟩
  rw [← ht] at HF HR
  rw [← hu] at HR ⊢
  clear hG hc ht hu
  go_enter Tryz.func73, Tryz.ntmps73
  go_wp2_with (first
    | (go_at_call 90; refine HF.out.mono ?_; rintro e w1 ⟨rfl, hb⟩; have HB := Lib.hid hb; clear hb)
    | (go_at_call 89; refine (HR.out _ HB.out).mono ?_; rintro e w2 ⟨rfl, hb⟩; have HB2 := Lib.hid hb; clear hb))
  go_ret
  exact ⟨rfl, HB.out.trans (HB2.out.mono HB.out.size)⟩
theorem bsz (u : List UInt8) : (⟨u.toArray⟩ : ByteArray).size = u.length := by rw [Lib.size_eq]
/-- Some numbers' digits, a blank between. -/
def decK (L : List Int) : Nat → List UInt8
  | 0 => []
  | k + 1 => decK L k ++ (if 0 < k then [32] else []) ++ decT (L.getD k 0)
theorem isB_below {B b : Nat} {l : List Value} {w w' : World} (h : IsB B b l w) (hb : Below w.heap.size w w') : IsB B b l w' := by
  have go : ∀ p, Lib.BuilderAt 78 5 B b p l w → Lib.BuilderAt 78 5 B b p l w' := fun p h => by
    obtain ⟨hB, v, hk, hown, hne⟩ := h
    have hlt : b < w.heap.size := Lib.BuilderAt.lt (T := 78) (e := 5) ⟨hB, v, hk, hown, hne⟩
    refine ⟨hB, v, (hb.block b hlt).trans hk, ⟨hown.1, ?_⟩, hne⟩
    rcases hown.2 with hn | ⟨g, cap, cur, e1, e2, e3, e4⟩
    · exact .inl hn
    · exact .inr ⟨g, cap, cur, e1, e2, (hb.block g (Array.getElem?_eq_some_iff.1 e3).1).trans e3, e4⟩
  rcases h with h | h
  · exact .inl (go _ h)
  · exact .inr (go _ h)
set_option maxRecDepth 100000 in
set_option maxHeartbeats 4000000 in
theorem decimals_c (a : Ary) (s : Value) (w : World) (hs : KL w s a.n) (hi : InL a.n) (hG : AG w) (hne : 0 < a.n.length) (hq : ∀ k, k < a.n.length → (decK a.n k).length ≤ 1000 ∧ (Lib.itoa (a.n.getD k 0)).length ≤ 100 ∧ Lib.countB ⟨(Lib.itoa (a.n.getD k 0)).toArray⟩ ⟨#[45]⟩ ≤ 100 ∧ (decT (a.n.getD k 0)).length ≤ 1000) :
    Calls Tryz.prog 45 #[aryV a s] w fun e w' => e = .returned (.string ⟨(decK a.n a.n.length).toArray⟩) ∧ Below w.heap.size w w' := by
  obtain ⟨L, R, N⟩ := a
  dsimp only at *
  obtain ⟨g, o, sc, rfl, hg, hc⟩ := hs.cells hne
  obtain ⟨n, hn⟩ : ∃ n, n = N.length := ⟨_, rfl⟩
  have hnz : n ≤ 9223372036854775807 := by obtain ⟨_, _, e, h1, h2⟩ := hs.form; unfold maxLen at h2; omega
  have h0 : ¬ ((n : Int) = 0) := by omega
  rw [← hn] at hne hq ⊢
  have HN := Lib.hid hn
  have HI := Lib.hid hi
  have HG := Lib.hid hG
  have HQ := Lib.hid hq
  have HC := Lib.hid hc
  have t0 : ((n : Int) == 0) = false := by simp; omega
  obtain ⟨w1, hw1⟩ : ∃ w1, w1 = w.alloc (.cells #[.bool L, .bool R, .slice (some ⟨g, o, none⟩) n sc] 24) := ⟨_, rfl⟩
  have hb1 : Below w.heap.size w w1 := by rw [hw1]; exact (Below.refl _ _).alloc (Nat.le_refl _) _
  have hs1 : w1.heap.size = w.heap.size + 1 := by rw [hw1]; simp
  have r1 : Row w1 w.heap.size 24 #[.bool L, .bool R, .slice (some ⟨g, o, none⟩) n sc] := by rw [hw1]; exact Row.new _ _ _
  have HB := Lib.hid (isB_new w1)
  have hb2 : Below w1.heap.size w1 (w1.alloc (.cells #[.pointer none, .slice none 0 0] 78)) := (Below.refl _ _).alloc (Nat.le_refl _) _
  have HB2 := Lib.hid hb2
  have HB1 := Lib.hid hb1
  have HS1 := Lib.hid hs1
  have HR1 := Lib.hid r1
  rw [hw1, show (w.alloc (.cells #[.bool L, .bool R, .slice (some ⟨g, o, none⟩) n sc] 24)).heap.size = w.heap.size + 1 by simp] at HB
  rw [hw1] at HB2
  have HW1 := Lib.hid hw1
  clear hs hn hi hG hq hc hb1 hs1 r1 hb2 hw1 hne
  go_enter Tryz.func45, Tryz.ntmps45
  go_wp2
  go_loopw [13] (fun i wr => ∃ k : Nat, k ≤ n ∧ i = .int .i64 (k : Int) ∧ IsB (w.heap.size + 1) (w.heap.size + 1) (Lib.byteCells (decK N k)) wr ∧ Below (w.heap.size + 1) w1 wr) (fun i _ => n - (intOf i).toNat)
  case atStart => exact ⟨0, Nat.zero_le _, rfl, HB.out, by rw [← HW1.out] at HB2 ⊢; exact HB2.out.mono (by rw [HS1.out]; exact Nat.le_refl _)⟩
  case round =>
    obtain ⟨k, hk, rfl, hib, hbw⟩ := hrel
    have HIB := Lib.hid hib
    have HBW := Lib.hid hbw
    by_cases hlt : k < n
    · obtain ⟨x, hx⟩ := at_of (L := N) (k := k) (by rw [← HN.out]; exact hlt)
      have c0 := (hbw.cell (p := ⟨g, o + k, none⟩) (by show g < w.heap.size + 1; omega)).trans ((HB1.out.cell (p := ⟨g, o + k, none⟩) hg).trans (HC.out k x hx))
      have hgx : N.getD k 0 = x := by rw [List.getD_eq_getElem?_getD, hx]; rfl
      obtain ⟨q1, q2, q3, q4⟩ := HQ.out k hlt
      rw [hgx] at q2 q3 q4
      have hsz := HS1.out
      have HAGW : Hid (∀ W, Below wr.heap.size wr W → AG W) := Lib.hid (fun W h => HG.out.below (HB1.out.trans ((HBW.out.trans (h.mono (by have := HBW.out.size; omega))).mono (by omega))))
      have HD := Lib.hid (fun W (h : Below wr.heap.size wr W) => decimal_c x (HI.out x (List.mem_of_getElem? hx)) W (HAGW.out W h) ⟨q2, q3⟩)
      have HSN : Hid (decK N (k + 1) = decK N k ++ (if 0 < k then [32] else []) ++ decT x) := Lib.hid (by rw [← hgx]; rfl)
      have HL4 := Lib.hid q4
      have HL1 := Lib.hid q1
      have HSZ : Hid (w.heap.size + 1 ≤ wr.heap.size) := Lib.hid (by have := HBW.out.size; omega)
      have HX := Lib.hid hx
      have HQ2 := Lib.hid (And.intro q2 q3)
      obtain ⟨u, hu⟩ : ∃ u, u = decT x := ⟨_, rfl⟩
      rw [← hu] at HD HSN HL4
      have HU := Lib.hid hu
      clear hib hbw hx hgx q1 q2 q3 q4 hsz hu
      by_cases hk0 : k = 0
      · have h1 : ¬ (0 : Int) < (k : Int) := by omega
        clear hk0
        have HWR := Lib.hid (fun W (h : IsB (w.heap.size + 1) (w.heap.size + 1) (Lib.byteCells (decK N k)) W) (hs : w.heap.size + 1 ≤ W.heap.size) => write_c (w.heap.size + 1) (w.heap.size + 1) (Lib.byteCells (decK N k)) ⟨u.toArray⟩ W h (by have h1 := HL4.out; have h2 := HL1.out; rw [Lib.byteCells_length, bsz]; omega) hs)
        go_wp2_with (first
          | (go_at_call 73; refine (HD.out _ (Below.refl _ _)).mono ?_; rintro e w2 ⟨rfl, hb⟩; have HB3 := Lib.hid hb; clear hb)
          | (go_at_call 72; refine (HWR.out _ (isB_below HIB.out HB3.out) (Nat.le_trans HSZ.out HB3.out.size)).mono ?_; rintro e w3 ⟨rfl, hib, hb⟩; have HIB3 := Lib.hid hib; have HB4 := Lib.hid hb; clear hib hb))
        go_roundw
        case rel =>
          refine ⟨k + 1, by omega, by go_num, ?_, HBW.out.trans ((HB3.out.mono HSZ.out).trans HB4.out)⟩
          rw [HSN.out, if_neg (by omega)]
          have := HIB3.out
          rw [Lib.strCells_eq] at this
          simpa [Lib.byteCells_append] using this
        case measure => simp [intOf]; omega
      · have h1 : (0 : Int) < (k : Int) := by omega
        have HBY := Lib.hid (byte_c (w.heap.size + 1) (w.heap.size + 1) (Lib.byteCells (decK N k)) 32 wr HIB.out (by have h2 := HL1.out; rw [Lib.byteCells_length]; omega) HSZ.out)
        have HWR := Lib.hid (fun W (h : IsB (w.heap.size + 1) (w.heap.size + 1) (Lib.byteCells (decK N k) ++ [.int .u8 32]) W) (hs : w.heap.size + 1 ≤ W.heap.size) => write_c (w.heap.size + 1) (w.heap.size + 1) (Lib.byteCells (decK N k) ++ [.int .u8 32]) ⟨u.toArray⟩ W h (by have h1 := HL4.out; have h2 := HL1.out; rw [List.length_append, Lib.byteCells_length, bsz]; simp; omega) hs)
        have HD2 := Lib.hid (fun W (h : Below (w.heap.size + 1) wr W) => decimal_c x (HI.out x (List.mem_of_getElem? HX.out)) W (HG.out.below (HB1.out.trans ((HBW.out.trans h).mono (by omega)))) HQ2.out)
        rw [HU.out] at HWR HSN HL4
        go_wp2_with (first
          | (go_at_call 69; refine HBY.out.mono ?_; rintro e w5 ⟨rfl, hib, hb⟩; have HIB5 := Lib.hid hib; have HB5 := Lib.hid hb; clear hib hb)
          | (go_at_call 73; refine (HD2.out _ HB5.out).mono ?_; rintro e w2 ⟨rfl, hb⟩; have HB3 := Lib.hid hb; clear hb)
          | (go_at_call 72; refine (HWR.out _ (isB_below HIB5.out HB3.out) (Nat.le_trans (Nat.le_trans HSZ.out HB5.out.size) HB3.out.size)).mono ?_; rintro e w3 ⟨rfl, hib, hb⟩; have HIB3 := Lib.hid hib; have HB4 := Lib.hid hb; clear hib hb))
        go_roundw
        case rel =>
          refine ⟨k + 1, by omega, by go_num, ?_, HBW.out.trans (HB5.out.trans ((HB3.out.mono (Nat.le_trans HSZ.out HB5.out.size)).trans HB4.out))⟩
          rw [HSN.out, if_pos (by omega)]
          have := HIB3.out
          rw [Lib.strCells_eq] at this
          simpa [Lib.byteCells_append, Lib.byteCells] using this
        case measure => simp [intOf]; omega
    · have hkn : k = n := by omega
      subst hkn
      have HST := Lib.hid (Tryz.Builder_String_any (w.heap.size + 1) (w.heap.size + 1) (decK N k) wr hib (by have := hbw.size; have := HS1.out; omega))
      clear hib hbw
      go_wp2_with (go_at_call 71; refine HST.out.mono ?_; rintro e w2 ⟨rfl, hb⟩; have HB3 := Lib.hid hb; clear hb)
      go_ret
      exact ⟨rfl, HB1.out.trans ((HBW.out.trans HB3.out).mono (by omega))⟩
end Go.Proofs.YteclpoooggcdoaaGreatDoor.Ar
