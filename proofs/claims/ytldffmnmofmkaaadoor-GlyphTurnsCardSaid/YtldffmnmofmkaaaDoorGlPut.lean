/- A reader: what is left of a text, and what is written. -/
import Derived.Test.YtldffmnmofmkaaaDoorGlNext
import Derived.Test.YtldffmnmofmkaaaDoorPgRow
import Derived.Laws.AppendOwn
import Derived.Lib.AppendStr
import Derived.Lib.BufferWrite
import Derived.OwnWalk
namespace Go.Proofs.YtldffmnmofmkaaaDoor
open Go Go.RowKit

theorem strCells_bs (l : List UInt8) : Lib.strCells (bs l) = Lib.byteCells l := by simp [Lib.strCells, Lib.byteCells, bs]
theorem byteCells_app (a b : List UInt8) : Lib.byteCells (a ++ b) = Lib.byteCells a ++ Lib.byteCells b := by simp [Lib.byteCells]

/-- A block of another type isn't the one that is owned. -/
theorem own_ne {w : World} {base : Nat} {e t : TypeId} {v : Value} {n k : Nat} {xs : List Value} {cs : Array Value} (h : w.ownsRow base e 1 v n xs) (hr : Row w k t cs) (hne : t ≠ e) : v.ownBlock ≠ some k := by
  rcases h.2 with ⟨rfl, _⟩ | ⟨g, cap, cur, rfl, _, hg, _⟩
  · intro e; cases e
  · intro e
    have e' : g = k := by simpa [Value.ownBlock] using e
    subst e'
    rw [show w.heap[g]? = _ from hr] at hg
    cases hg
    exact hne rfl
theorem Row.grown {X Y : World} {row : Option Nat} {k : Nat} {cs : Array Value} {t : TypeId} (h : Row X k t cs) (hg : X.grownBy Y row) (hne : row ≠ some k) : Row Y k t cs := (hg.block k h.lt (fun e => hne e.symm)).trans h

theorem own_set {w : World} {base : Nat} {e t : TypeId} {v : Value} {n k : Nat} {xs : List Value} {cs : Array Value} (h : w.ownsRow base e 1 v n xs) (hr : Row w k t cs) (hne : t ≠ e) (i : Nat) (u : Value) : (w.setCell ⟨k, i, none⟩ u).ownsRow base e 1 v n xs := by
  have hb := own_ne h hr hne
  refine ⟨h.1, ?_⟩
  rcases h.2 with h0 | ⟨g, cap, cur, e1, e2, e3, e4⟩
  · exact .inl h0
  · refine .inr ⟨g, cap, cur, e1, e2, (Below.heap_setCell w ⟨k, i, none⟩ u g (fun e => hb ?_)).trans e3, e4⟩
    rw [e1]
    exact congrArg some e

theorem own_slice {w : World} {base : Nat} {e : TypeId} {v : Value} {n : Nat} {xs : List Value} (h : w.ownsRow base e 1 v n xs) : ∃ a l c, v = .slice a l c := by
  rcases h.2 with ⟨rfl, _⟩ | ⟨g, cap, cur, rfl, _⟩
  · exact ⟨_, _, _, rfl⟩
  · exact ⟨_, _, _, rfl⟩

/-- THE READER in block Br: s is left, the bytes T are written. -/
def Rd (base Br : Nat) (W : World) (s : ByteArray) (T : List UInt8) : Prop :=
  ∃ v, Row W Br 58 #[.string s, v] ∧ W.ownsRow base 5 1 v T.length (Lib.byteCells T)

theorem own_below {w w' : World} {base : Nat} {e : TypeId} {v : Value} {n : Nat} {xs : List Value} (h : w.ownsRow base e 1 v n xs) (hb : Below w.heap.size w w') : w'.ownsRow base e 1 v n xs := by
  refine ⟨h.1, ?_⟩
  rcases h.2 with h0 | ⟨g, cap, cur, e1, e2, e3, e4⟩
  · exact .inl h0
  · exact .inr ⟨g, cap, cur, e1, e2, (hb.block g (Array.getElem?_eq_some_iff.1 e3).1).trans e3, e4⟩
theorem Rd.below {base Br : Nat} {W W' : World} {s : ByteArray} {T : List UInt8} (h : Rd base Br W s T) (hb : Below W.heap.size W W') : Rd base Br W' s T := by
  obtain ⟨v, h1, h2⟩ := h
  exact ⟨v, h1.below hb h1.lt, own_below h2 hb⟩

theorem Tryd.infoU8 : (Tryd.prog.info? 5).map (fun i => (i.zero, i.size, i.bytes)) = some (some (.int .u8 0), 1, 1) := by kernel_rfl

set_option maxRecDepth 100000 in
theorem take_c (base Br : Nat) (s : ByteArray) (T : List UInt8) (n : Nat) (hn : n ≤ s.size) (hbb : base ≤ Br) (w : World) (h : Rd base Br w s T) :
    Calls Tryd.prog 37 #[.pointer (some ⟨Br, 0, none⟩), .int .i64 (n : Int)] w fun e W' => e = .returned (.string (s.extract 0 n)) ∧ Rd base Br W' (s.extract n s.size) T ∧ Below base w W' ∧ (∀ k, k ≠ Br → W'.heap[k]? = w.heap[k]?) ∧ W'.heap.size = w.heap.size := by
  obtain ⟨v0, hr0, hown0⟩ := h
  have hne := own_ne hown0 hr0 (by decide)
  have HOWN := Lib.hid hown0
  have HR := Lib.hid hr0
  have c0 := hr0.cell 0
  have f0 := hr0.frozen 0
  have l0 := hr0.lt
  simp at c0
  clear hown0 hr0
  go_enter Tryd.func37, Tryd.ntmps37
  go_wp2
  go_ret
  refine ⟨rfl, ⟨v0, HR.out.set 0 _, ?_⟩, (Below.refl _ _).setCell hbb _, fun k hk => Below.heap_setCell w ⟨Br, 0, none⟩ _ k hk, by simp⟩
  exact own_set HOWN.out HR.out (by decide) 0 _

set_option maxRecDepth 100000 in
set_option maxHeartbeats 2000000 in
/-- r.put(texts...). -/
theorem put_c (base Br bt : Nat) (s : ByteArray) (T : List UInt8) (L : List (List UInt8)) (hL : L.length ≤ 2) (hT : T.length + L.flatten.length ≤ 100000) (hbb : base ≤ Br) (w : World) (h : Rd base Br w s T) (hr : Row w bt 9 (L.map fun l => Value.string (bs l)).toArray) :
    Calls Tryd.prog 36 #[.pointer (some ⟨Br, 0, none⟩), .slice (some ⟨bt, 0, none⟩) L.length L.length] w fun e W' => (∃ v, e = .returned v) ∧ Rd base Br W' s (T ++ L.flatten) ∧ Below base w W' ∧ (∀ k t cs, Row w k t cs → k ≠ Br → t ≠ 5 → Row W' k t cs) := by
  obtain ⟨v0, hr0, hown0⟩ := h
  go_enter Tryd.func36, Tryd.ntmps36
  obtain ⟨i0, hi, hz0, hz1, hz2⟩ := info_parts Tryd.infoU8
  have HOWN := Lib.hid hown0
  have HR := Lib.hid hr0
  have HT := Lib.hid hr
  clear hown0 hr0 hr
  go_wp2
  go_loopw [8] (fun i wr => ∃ (k : Nat) (v : Value), k ≤ L.length ∧ i = .int .i64 k ∧ Row wr Br 58 #[.string s, v] ∧ wr.ownsRow base 5 1 v (T ++ (L.take k).flatten).length (Lib.byteCells (T ++ (L.take k).flatten)) ∧
      Row wr bt 9 (L.map fun l => Value.string (bs l)).toArray ∧ Below base w wr ∧ base ≤ wr.heap.size ∧ (∀ k t cs, Row w k t cs → k ≠ Br → t ≠ 5 → Row wr k t cs))
    (fun i _ => L.length - (intOf i).toNat)
  case atStart => exact ⟨0, v0, Nat.zero_le _, rfl, HR.out, by simpa using HOWN.out, HT.out, Below.refl _ _, by have := HR.out.lt; omega, fun _ _ _ h _ _ => h⟩
  case round =>
    obtain ⟨k, v, hk, rfl, r0, ho, rt, hB, hbs, hkeep⟩ := hrel
    have HK := Lib.hid hkeep
    clear hkeep
    have R0 := Lib.hid r0
    have RT := Lib.hid rt
    have HO := Lib.hid ho
    have HB := Lib.hid hB
    by_cases hlt : k < L.length
    · obtain ⟨l, hl⟩ : ∃ l, l = L[k] := ⟨_, rfl⟩
      have ct := rt.cell k
      rw [List.getElem?_toArray, List.getElem?_map, List.getElem?_eq_getElem hlt, ← hl] at ct
      simp only [Option.map_some] at ct
      have c1 := r0.cell 1
      simp at c1
      have e0 : (L.take (k + 1)).flatten = (L.take k).flatten ++ l := by rw [List.take_succ_eq_append_getElem hlt, List.flatten_append, hl]; simp
      have e1 : (T ++ (L.take (k + 1)).flatten) = (T ++ (L.take k).flatten) ++ l := by rw [e0, List.append_assoc]
      have hle : (T ++ (L.take (k + 1)).flatten).length ≤ 100000 := by
        have h1 : L.flatten = (L.take (k + 1)).flatten ++ (L.drop (k + 1)).flatten := by rw [← List.flatten_append, List.take_append_drop]
        rw [h1, List.length_append] at hT
        rw [List.length_append]
        omega
      rw [e1, List.length_append] at hle
      have hm : (T ++ (L.take k).flatten).length + (bs l).size ≤ maxLen := by rw [bs_size]; unfold maxLen; omega
      have hm2 : (T ++ (L.take k).flatten).length + (bs l).size ≤ 140737488355328 := by rw [bs_size]; omega
      have HM := Lib.hid hm
      have HM2 := Lib.hid hm2
      have E1 := Lib.hid e1
      have HL : Hid (Lib.byteCells (T ++ (L.take k).flatten) ++ Lib.strCells (bs l) = Lib.byteCells (T ++ (L.take (k + 1)).flatten)) := Lib.hid (by rw [e1, byteCells_app (T ++ (L.take k).flatten) l, strCells_bs])
      have HLN : Hid ((T ++ (L.take k).flatten).length + (bs l).size = (T ++ (L.take (k + 1)).flatten).length) := Lib.hid (by rw [e1, bs_size, ← List.length_append])
      clear r0 rt ho hB hl e0 e1 hle hm hm2 hT
      go_wp2_with (at_builtin; refine Lib.wpList_append_own_string _ rfl (.tmp 16) (.tmp 17) 53 9 rfl base 5 i0 Tryd.underlying53 Tryd.underlying9 hi hz0 hz1 hz2 v _ _ rfl HO.out (bs l) rfl HM.out HM2.out hbs ?_; intro v' w1 hown' hgrow _; obtain ⟨a1, l1, k1, rfl⟩ := own_slice hown'; have q1 := R0.out.grown hgrow (own_ne HO.out R0.out (by decide)); have q2 := RT.out.grown hgrow (own_ne HO.out RT.out (by decide)); have c1' := q1.cell 1; have f1' := q1.frozen 1; simp at c1'; have Q1 := Lib.hid q1; have Q2 := Lib.hid q2; have HG := Lib.hid hgrow; have HO' := Lib.hid hown'; clear q1 q2 hown' hgrow)
      go_roundw
      case rel =>
        refine ⟨k + 1, .slice a1 l1 k1, by omega, by simp, Q1.out.set 1 _, ?_, Q2.out.other ?_ _, ?_, ?_, fun j t cs hj hjb hjt => ?_⟩
        · have h1 := HO'.out
          rw [HL.out, HLN.out] at h1
          exact own_set h1 Q1.out (by decide) 1 _
        · intro e
          have h1 := Q1.out
          have h2 := Q2.out
          unfold Row at h1 h2
          rw [e] at h2
          rw [h2] at h1
          injection h1 with h1
          injection h1 with _ ht
          exact absurd ht (by decide)
        · exact (HB.out.grown HG.out hbs (fun j ej => (HO.out.lt j ej).1)).setCell hbb _
        · have := HG.out.size; simp; omega
        · have h1 := HK.out j t cs hj hjb hjt
          exact (h1.grown HG.out (own_ne HO.out h1 hjt)).other hjb _
      case measure => simp [intOf]; omega
    · obtain rfl : k = L.length := by omega
      clear r0 rt ho hB
      go_wp2
      go_end0
      have := HO.out
      rw [List.take_length] at this
      exact ⟨⟨_, rfl⟩, ⟨v, R0.out, this⟩, HB.out, HK.out⟩
end Go.Proofs.YtldffmnmofmkaaaDoor
