/- The plain answer of place: where lines begin. -/
import Derived.Test.YtaahhilnkffdlaaDoorChecked
import Derived.WalkKit
import Derived.RangeFuncRecord
import Derived.OwnWalk
import Derived.Lib.Hide
import Derived.Laws.OwnMore
import Derived.Deep.AppendLies
import Derived.Outline
namespace Go.Proofs.YtaahhilnkffdlaaDoor
open Go Go.RowKit

/-- Numbers as cells. -/
def ints (L : List Nat) : List Value := L.map fun (x : Nat) => Value.int .i64 (x : Int)
theorem ints_len (L : List Nat) : (ints L).length = L.length := by simp [ints]
/-- The line begins among the first k places. -/
def starts (T : List UInt8) : Nat → List Nat
  | 0 => [0]
  | k + 1 => if T[k]? = some 10 then starts T k ++ [k + 1] else starts T k
theorem starts_len (T : List UInt8) : ∀ k, 1 ≤ (starts T k).length ∧ (starts T k).length ≤ k + 1
  | 0 => ⟨Nat.le_refl _, Nat.le_refl _⟩
  | k + 1 => by
    have := starts_len T k
    unfold starts
    split
    · rw [List.length_append, List.length_singleton]; omega
    · omega

theorem byte_at (s : ByteArray) (k : Nat) (h : k < s.size) : s.data.toList[k]? = some s[k] := by
  rw [Array.getElem?_toList, Array.getElem?_eq_getElem h]
  rfl

theorem Tryd.infoInt : (Tryd.prog.info? 3).map (fun i => (i.zero, i.size, i.bytes)) = some (some (.int .i64 0), 1, 8) := by kernel_rfl

/-- A slice of numbers that the call owns. -/
abbrev Own (W : World) (base : Nat) (v : Value) (L : List Nat) : Prop := W.ownsRow base 3 1 v L.length (ints L)

set_option maxHeartbeats 2000000 in
set_option maxRecDepth 100000 in
theorem rlines (w : World) (s : ByteArray) (hs : s.size ≤ 600) :
    Calls Tryd.prog 18 #[.string s] w fun e W' => ∃ v, e = .returned v ∧ Own W' w.heap.size v (starts s.data.toList s.size) ∧ Below w.heap.size w W' := by
  obtain ⟨i0, hi, hz0, hz1, hz2⟩ := info_parts Tryd.infoInt
  have hD : Below w.heap.size w (w.alloc (.cells #[.int .i64 0] 3)) := (Below.refl _ w).alloc (Nat.le_refl _) _
  have hO : Own (w.alloc (.cells #[.int .i64 0] 3)) w.heap.size (.slice (some ⟨w.heap.size, 0, none⟩) 1 1) (starts s.data.toList 0) :=
    World.ownsRow_lit w #[.int .i64 0] 1 (Nat.le_refl _) (by unfold maxLen; omega) rfl
  go_enter Tryd.func18, Tryd.ntmps18
  go_wp2
  go_loopw [3, 4] (fun u i wr => ∃ k : Nat, k ≤ s.size ∧ i = .int .i64 k ∧ Own wr w.heap.size u (starts s.data.toList k) ∧ Below w.heap.size w wr)
    (fun _ i _ => s.size - (intOf i).toNat)
  case atStart => exact ⟨0, Nat.zero_le _, rfl, hO, hD⟩
  case round =>
    obtain ⟨k, hk, rfl, hown, hB⟩ := hrel
    have HO := Lib.hid hown
    have HB := Lib.hid hB
    have hbs := hB.size
    clear hown hB hO hD
    by_cases hlt : k < s.size
    · by_cases h10 : s[k] = 10
      · have t10 : ((s[k].toNat : Int) == 10) = true := by rw [h10]; rfl
        have HK : Hid (starts s.data.toList (k + 1) = starts s.data.toList k ++ [k + 1]) := Lib.hid (by show (if _ then _ else _) = _; rw [byte_at s k hlt, h10, if_pos rfl])
        have hsl := (starts_len s.data.toList k).2
        have hc1 : ∀ (j : Nat) (u : Value), [Value.int .i64 ((k : Int) + 1)][j]? = some u → (wr.alloc (.cells #[.int .i64 ((k : Int) + 1)] 3)).cell? ((⟨wr.heap.size, 0, none⟩ : Addr).add j) = some u :=
          World.news_of_block (World.alloc_heap_new wr (.cells #[.int .i64 ((k : Int) + 1)] 3))
        have hc2 : ∀ u ∈ [Value.int .i64 ((k : Int) + 1)], u.oneCell' = true := by intro u hu; simp at hu; subst hu; rfl
        have H1 := Lib.hid hc1
        have H2 := Lib.hid hc2
        have H3 : Hid ((starts s.data.toList k).length + 1 ≤ maxLen ∧ ((starts s.data.toList k).length + 1) * 8 ≤ 140737488355328) := Lib.hid ⟨by unfold maxLen; omega, by omega⟩
        have H5 : Hid (w.heap.size ≤ (wr.alloc (.cells #[.int .i64 ((k : Int) + 1)] 3)).heap.size) := Lib.hid (by rw [World.size_alloc]; omega)
        clear hc1 hc2 hsl
        go_wp2_with (at_builtin; refine wpList_append_lies _ rfl (.tmp 16) (.tmp 19) 30 rfl w.heap.size 3 i0 (.int .i64 0) 1 8 Tryd.underlying30 hi hz0 hz1 hz2 rfl (by decide) u3 _ _ rfl (HO.out.alloc _) ⟨wr.heap.size, 0, none⟩ 1 1 [.int .i64 ((k : Int) + 1)] rfl rfl H1.out H2.out (by decide) H3.out.1 H3.out.2 H5.out _ rfl ?_; intro g cap w1 hown' hgrow hat hlt1; have HG := Lib.hid hgrow; have HO1 := Lib.hid hown'; clear hown' hgrow hat hlt1)
        have hlt2 := HO.out.lt
        have h9 : Below w.heap.size w w1 := (HB.out.alloc hbs _).grown HG.out H5.out (fun j ej => (hlt2 j ej).1)
        have HN : Hid (Own w1 w.heap.size (.slice (some ⟨g, 0, none⟩) ((starts s.data.toList k).length + 1) cap) (starts s.data.toList (k + 1)) ∧ Below w.heap.size w w1) := Lib.hid (by
          refine ⟨?_, h9⟩
          have e1 : (starts s.data.toList (k + 1)).length = (starts s.data.toList k).length + 1 := by rw [HK.out, List.length_append, List.length_singleton]
          have e2 : ints (starts s.data.toList (k + 1)) = ints (starts s.data.toList k) ++ [.int .i64 ((k : Int) + 1)] := by rw [HK.out]; simp [ints]
          unfold Own
          rw [e1, e2]
          exact HO1.out)
        clear h9 hlt2 H1 H2 H3 H5 HG HO1 HO HB HK
        go_wp2
        go_roundw
        case rel => exact ⟨k + 1, by omega, by go_num, HN.out.1, HN.out.2⟩
        case measure => simp [intOf]; omega
      · have t10 : ((s[k].toNat : Int) == 10) = false := beq_eq_false_iff_ne.2 (fun e => h10 (UInt8.toNat_inj.1 (by show s[k].toNat = 10; omega)))
        have HK : Hid (starts s.data.toList (k + 1) = starts s.data.toList k) := Lib.hid (by show (if _ then _ else _) = _; rw [byte_at s k hlt, if_neg (fun e => h10 (Option.some.inj e))])
        go_wp2
        go_roundw
        case rel => exact ⟨k + 1, by omega, by go_num, by rw [HK.out]; exact HO.out, HB.out⟩
        case measure => simp [intOf]; omega
    · obtain rfl : k = s.size := by omega
      go_wp2
      go_ret
      exact ⟨_, rfl, HO.out, HB.out⟩
end Go.Proofs.YtaahhilnkffdlaaDoor
