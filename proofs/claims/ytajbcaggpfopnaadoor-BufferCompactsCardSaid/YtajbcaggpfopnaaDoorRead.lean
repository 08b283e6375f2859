/- What is read from a place on. -/
import Derived.Test.YtajbcaggpfopnaaDoorIter
import Derived.Laws.IdiomStrings
import Derived.Laws.MakeOwn
import Derived.Lib.BufferWrite
import Derived.Lib.Hide
import Derived.Outline
namespace Go.Proofs.YtajbcaggpfopnaaDoor
open Go Go.RowKit Go.Shelf
attribute [local go_sem] Oper.semAt_some

/-- 'copy(dst, s)' FROM A STRING, AS MUCH AS FITS: the first m bytes go over. -/
theorem run_copy_part {P : Program} (w : World) (dT sT ty elem : TypeId) (g o dLen dCap : Nat) (s : ByteArray) (cur : Array Value) (t : TypeId) (m : Nat) (hm : m = min s.size dLen)
    (hu : P.underlying dT = some (.slice elem)) (hs : (P.info? elem).map (·.size) = some 1) (hg : w.heap[g]? = some (.cells cur t (0, 0))) (hfit : o + m ≤ cur.size) :
    (Builtin.copy_ #[dT, sT] ty #[.slice (some ⟨g, o, none⟩) dLen dCap, .string s]).run P w =
      .ok (goInt m) (w.setRow g (cur.toList.take o ++ Lib.byteCells (s.data.toList.take m) ++ cur.toList.drop (o + m)).toArray) := by
  have hlen : (Lib.byteCells (s.data.toList.take m)).length = m := by rw [Lib.byteCells_length, List.length_take, ← Lib.size_eq, hm]; omega
  have hst := run_storeCells_at P g o t (Lib.byteCells (s.data.toList.take m)) 0 cur w hg (by rw [hlen]; simpa using hfit) (Lib.byteCells_one _)
  have hmin : Nat.min s.size dLen = m := hm.symm
  rw [hlen] at hst
  simp only [Nat.add_zero] at hst
  cases hq : P.info? elem with
  | none => simp [hq] at hs
  | some i =>
    have htk : List.take m (List.map (fun b : UInt8 => Value.int IntKind.u8 (b.toNat : Int)) s.data.toList) = Lib.byteCells (s.data.toList.take m) := by
      rw [← List.map_take]; rfl
    simp [Builtin.copy_, run_underlying hu, Builtin.lenOf, Builtin.firstCells, sizeOf, typeInfo, hq, hmin]
    rw [htk, hst]
    simp [Result.andThen]

/-- All the bytes of the first k pieces. -/
def txt (S : Nat → ByteArray) : Nat → List UInt8
  | 0 => []
  | k + 1 => txt S k ++ (S k).data.toList
theorem txt_length (S : Nat → ByteArray) : ∀ k, (txt S k).length = offs S k
  | 0 => rfl
  | k + 1 => by rw [txt, List.length_append, txt_length S k, offs_succ, Lib.size_eq]
theorem txt_prefix (S : Nat → ByteArray) : ∀ {j k : Nat}, j ≤ k → txt S j <+: txt S k := by
  intro j k h
  induction k with
  | zero => obtain rfl : j = 0 := by omega
            exact List.prefix_refl _
  | succ k ih =>
    rcases Nat.lt_or_ge j (k + 1) with h1 | h1
    · exact (ih (by omega)).trans (List.prefix_append _ _)
    · obtain rfl : j = k + 1 := by omega
      exact List.prefix_refl _

/-- What has been read of the first k pieces. -/
def got (S : Nat → ByteArray) (at_ n k : Nat) : List UInt8 := ((txt S k).drop at_).take n
theorem got_len (S : Nat → ByteArray) (at_ n k : Nat) : (got S at_ n k).length = min n (offs S k - at_) := by
  rw [got, List.length_take, List.length_drop, txt_length]
theorem got_skip (S : Nat → ByteArray) {at_ n k : Nat} (h : offs S k + (S k).size ≤ at_) : got S at_ n (k + 1) = got S at_ n k := by
  have h1 := txt_length S (k + 1)
  have h2 := txt_length S k
  rw [offs_succ] at h1
  unfold got
  rw [List.drop_of_length_le (by omega), List.drop_of_length_le (by omega)]
theorem got_next (S : Nat → ByteArray) {at_ n k : Nat} (d : Nat) (hd : d = at_ - offs S k) :
    got S at_ n (k + 1) = got S at_ n k ++ ((S k).data.toList.drop d).take (n - (got S at_ n k).length) := by
  subst hd
  have h2 := txt_length S k
  rw [got_len]
  unfold got
  rw [txt, List.drop_append, List.take_append, List.length_drop, h2]
  congr 1
  rcases Nat.le_total n (offs S k - at_) with h | h
  · rw [Nat.min_eq_left h, Nat.sub_eq_zero_of_le h, Nat.sub_self]
  · rw [Nat.min_eq_right h]
theorem got_full (S : Nat → ByteArray) {at_ n j k : Nat} (hjk : j ≤ k) (h : (got S at_ n j).length = n) : got S at_ n j = got S at_ n k := by
  obtain ⟨r, hr⟩ := txt_prefix S hjk
  unfold got at *
  rw [← hr, List.drop_append, List.take_append]
  have : n - ((txt S j).drop at_).length = 0 := by rw [List.length_take] at h; omega
  rw [this]; simp

/-- THE ROW OF THE BYTES TO COME: D has come, the rest is as it was made. -/
def Filled (W : World) (O n : Nat) (D : List UInt8) : Prop := ∃ Y : Array Value, W.heap[O]? = some (.cells Y 5 (0, 0)) ∧ Y.size = n ∧ Y.toList.take D.length = Lib.byteCells D
theorem Filled.kept {W W' : World} {O n : Nat} {D : List UInt8} (h : Filled W O n D) (hg : W'.heap[O]? = W.heap[O]?) : Filled W' O n D := by
  obtain ⟨Y, h1, h2, h3⟩ := h
  exact ⟨Y, hg.trans h1, h2, h3⟩
theorem Filled.lt {W : World} {O n : Nat} {D : List UInt8} (h : Filled W O n D) : O < W.heap.size := by
  obtain ⟨Y, h1, _⟩ := h
  exact (Array.getElem?_eq_some_iff.1 h1).1
theorem filled_own {β : Type} (O n : Nat) (f : β → List UInt8) : Own (fun s W => Filled W O n (f s)) := fun s X Y row hs hg hrow =>
  hs.kept (hg.block O hs.lt (fun e' => by
    obtain ⟨o, ho, hc⟩ := hrow O e'.symm
    obtain ⟨Y, h1, _⟩ := hs
    rw [h1] at ho; cases ho; cases hc))
/-- Behind the copy of E into the row. -/
theorem Filled.more {W : World} {O n : Nat} {D E : List UInt8} {Y : Array Value} (h1 : W.heap[O]? = some (.cells Y 5 (0, 0))) (h2 : Y.size = n) (h3 : Y.toList.take D.length = Lib.byteCells D) (hfit : D.length + E.length ≤ n) :
    Filled (W.setRow O (Y.toList.take D.length ++ Lib.byteCells E ++ Y.toList.drop (D.length + E.length)).toArray) O n (D ++ E) := by
  refine ⟨_, setRow_heap W O Y _ 5 (0, 0) h1, ?_, ?_⟩
  · rw [← Array.length_toList] at h2
    simp [Lib.byteCells_length, List.length_take, List.length_drop, h2]; omega
  · rw [List.toList_toArray, h3, List.length_append, ← Lib.byteCells_append]
    rw [List.take_append_of_le_length (by rw [Lib.byteCells_length, List.length_append]; exact Nat.le_refl _), List.take_of_length_le (by rw [Lib.byteCells_length, List.length_append]; exact Nat.le_refl _)]
theorem Filled.cell {W : World} {O n : Nat} {D : List UInt8} (h : Filled W O n D) (j : Nat) (hj : j < D.length) : W.cell? ⟨O, j, none⟩ = some (.int .u8 (D[j].toNat : Int)) := by
  obtain ⟨Y, h1, h2, h3⟩ := h
  rw [cell_of_row W O j Y 5 (0, 0) h1]
  have h4 : (Y.toList.take D.length)[j]? = (Lib.byteCells D)[j]? := by rw [h3]
  rw [List.getElem?_take, if_pos hj] at h4
  rw [← Array.getElem?_toList, h4]
  simp [Lib.byteCells, hj]

end Go.Proofs.YtajbcaggpfopnaaDoor
