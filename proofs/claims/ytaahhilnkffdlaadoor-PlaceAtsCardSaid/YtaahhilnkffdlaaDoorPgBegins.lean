/- place.begins: where a line begins is put behind a list. -/
import Derived.Test.YtaahhilnkffdlaaDoorPgLine
namespace Go.Proofs.YtaahhilnkffdlaaDoor
open Go Go.RowKit

set_option maxHeartbeats 2000000 in
set_option maxRecDepth 100000 in
/-- begins(list, l): the list with where l begins behind; nothing turns but the list's own block, where there was room in it. -/
theorem begins_c (base g a b : Nat) (v : Value) (L : List Nat) (hL : L.length ≤ 601) (w : World) (hbase : base ≤ w.heap.size) (ho : Own w base v L) (hg : Row w g 41 #[.int .i64 (a : Int), .int .i64 (b : Int)]) :
    Calls Tryd.prog 33 #[v, .slice (some ⟨g, 0, none⟩) 1 1] w fun e W' => ∃ v', e = .returned v' ∧ Own W' base v' (L ++ [a]) ∧ Below base w W' ∧ (∀ k, k < w.heap.size → v.ownBlock ≠ some k → W'.heap[k]? = w.heap[k]?) := by
  obtain ⟨i0, hi, hz0, hz1, hz2⟩ := info_parts Tryd.infoInt
  have c0 := hg.cell 0
  have c1 := hg.cell 1
  simp at c0 c1
  have HO := Lib.hid ho
  have HG := Lib.hid hg
  have hc1 : ∀ (j : Nat) (u : Value), [Value.int .i64 (a : Int)][j]? = some u → ((w.alloc (.cells #[.int .i64 (a : Int), .int .i64 (b : Int)] 41)).alloc (.cells #[.int .i64 (a : Int)] 3)).cell? ((⟨w.heap.size + 1, 0, none⟩ : Addr).add j) = some u := by
    have := World.news_of_block (World.alloc_heap_new (w.alloc (.cells #[.int .i64 (a : Int), .int .i64 (b : Int)] 41)) (.cells #[.int .i64 (a : Int)] 3))
    rw [World.size_alloc] at this
    exact this
  have hc2 : ∀ u ∈ [Value.int .i64 (a : Int)], u.oneCell' = true := by intro u hu; simp at hu; subst hu; rfl
  have H1 := Lib.hid hc1
  have H2 := Lib.hid hc2
  have H3 : Hid (L.length + 1 ≤ maxLen ∧ (L.length + 1) * 8 ≤ 140737488355328) := Lib.hid ⟨by unfold maxLen; omega, by omega⟩
  have H5 : Hid (base ≤ ((w.alloc (.cells #[.int .i64 (a : Int), .int .i64 (b : Int)] 41)).alloc (.cells #[.int .i64 (a : Int)] 3)).heap.size) := Lib.hid (by simp; omega)
  have HL := Lib.hid hL
  clear ho hg hc1 hc2 hL
  go_enter Tryd.func33, Tryd.ntmps33
  go_wp2
  refine wp_loop_rounds 2 ?_
  rw [rounds_succ]
  go_wp2_with (at_builtin; refine wpList_append_lies _ rfl (.tmp 13) (.tmp 16) 30 rfl base 3 i0 (.int .i64 0) 1 8 Tryd.underlying30 hi hz0 hz1 hz2 rfl (by decide) v L.length (ints L) rfl ((HO.out.alloc _).alloc _) ⟨w.heap.size + 1, 0, none⟩ 1 1 [.int .i64 (a : Int)] rfl rfl H1.out H2.out (by decide) H3.out.1 H3.out.2 H5.out _ rfl ?_; intro g2 cap w1 hown' hgrow hat hlt1; have HGR := Lib.hid hgrow; have HO1 := Lib.hid hown'; clear hown' hgrow hat hlt1)
  rw [rounds_succ]
  go_wp2
  go_ret
  refine ⟨_, rfl, ?_, ?_, fun k hk hne => ?_⟩
  · unfold Own
    rw [List.length_append, List.length_singleton]
    have e2 : ints (L ++ [a]) = ints L ++ [.int .i64 (a : Int)] := by simp [ints]
    rw [e2]
    exact HO1.out
  · exact ((((Below.refl base w).alloc hbase _).alloc (by simp; omega) _).grown HGR.out H5.out (fun j ej => (HO.out.lt j ej).1))
  · rw [HGR.out.block k (by simp; omega) (fun e => hne e.symm)]
    exact ((Below.heap_alloc (w.alloc _) _ k (by simp; omega))).trans (Below.heap_alloc w _ k hk)
end Go.Proofs.YtaahhilnkffdlaaDoor
