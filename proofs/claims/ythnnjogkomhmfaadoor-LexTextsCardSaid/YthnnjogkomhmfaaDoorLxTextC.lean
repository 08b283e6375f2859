/- Text(l). -/
import Derived.Test.YthnnjogkomhmfaaDoorLxText
namespace Go.Proofs.YthnnjogkomhmfaaDoor
open Go Go.RowKit Go.Shelf
attribute [local go_sem] Oper.semAt_some

/-- What tokens say. -/
def textOf (L : List Tk) : List UInt8 := L.flatMap (·.text)
theorem textOf_snoc (L : List Tk) (k : Nat) (t : Tk) (h : L[k]? = some t) : textOf (L.take (k + 1)) = textOf (L.take k) ++ t.text := by
  rw [List.take_add_one, h]
  simp [textOf]
theorem textOf_take (L : List Tk) (k : Nat) : (textOf (L.take k)).length ≤ (textOf L).length := by
  have h : textOf L = textOf (L.take k) ++ textOf (L.drop k) := by
    unfold textOf
    rw [← List.flatMap_append, List.take_append_drop]
  rw [h, List.length_append]
  omega
theorem isB_alloc {B b : Nat} {l : List Value} {w : World} (h : IsB B b l w) (o : Obj) : IsB B b l (w.alloc o) := by
  have go : ∀ p, Lib.BuilderAt 38 5 B b p l w → Lib.BuilderAt 38 5 B b p l (w.alloc o) := fun p h => by
    obtain ⟨hB, v, hb, hown, hne⟩ := h
    have hlt : b < w.heap.size := Lib.BuilderAt.lt (T := 38) (e := 5) ⟨hB, v, hb, hown, hne⟩
    exact ⟨hB, v, (Below.heap_alloc w o b hlt).trans hb, hown.alloc o, hne⟩
  rcases h with h | h
  · exact .inl (go _ h)
  · exact .inr (go _ h)
theorem isB_new (w : World) : IsB w.heap.size w.heap.size [] (w.alloc (.cells #[.pointer none, .slice none 0 0] 38)) :=
  .inl ⟨Nat.le_refl _, .slice none 0 0, World.alloc_heap_new w _, World.ownsRow_nil _ _ _ _, by simp [Value.ownBlock]⟩

set_option maxRecDepth 100000 in
set_option maxHeartbeats 4000000 in
theorem text_c (v : Value) (L : List Tk) (w : World) (hL : TL w v L) (hl : (textOf L).length ≤ 140737488355328) :
    Calls Tryd.prog 11 #[v] w fun e W' => e = .returned (.string (bs (textOf L))) ∧ Below w.heap.size w W' := by
  obtain ⟨a0, c0, rfl, hc1, hc2⟩ := hL.form
  unfold maxLen at hc2
  have HCL := Lib.hid hL.cells
  obtain ⟨n, hn⟩ : ∃ n, n = L.length := ⟨_, rfl⟩
  rw [← hn] at hc1 HCL ⊢
  have HN := Lib.hid hn
  have HI := Lib.hid (isB_new w)
  have HB0 : Hid (Below w.heap.size w (w.alloc (.cells #[.pointer none, .slice none 0 0] 38))) := Lib.hid ((Below.refl _ w).alloc (Nat.le_refl _) _)
  have HL := Lib.hid hl
  clear hL hn hl
  go_enter Tryd.func11, Tryd.ntmps11
  go_wp2
  go_loopw [8] (fun i wr => ∃ k : Nat, k ≤ n ∧ i = .int .i64 k ∧ IsB w.heap.size w.heap.size (Lib.byteCells (textOf (L.take k))) wr ∧ Below w.heap.size w wr)
    (fun i _ => n - (intOf i).toNat)
  case atStart => exact ⟨0, Nat.zero_le _, rfl, HI.out, HB0.out⟩
  case round =>
    obtain ⟨k, hk, rfl, hib, hb1⟩ := hrel
    have HO := Lib.hid hib
    have HB1 := Lib.hid hb1
    clear hib hb1
    by_cases hlt : k < n
    · obtain ⟨g, o, c1, hv, hg, hcs⟩ := HCL.out (by omega)
      obtain rfl : a0 = some ⟨g, o, none⟩ := by injection hv
      obtain ⟨t, ht⟩ : ∃ t, L[k]? = some t := ⟨_, List.getElem?_eq_getElem (by rw [← HN.out]; exact hlt)⟩
      obtain ⟨x0, x1, x2⟩ := hcs k t ht
      have hb := HB1.out
      have e0 := (hb.cell (p := ⟨g, o + k * 3, none⟩) hg).trans x0
      have e1 := (hb.cell (p := ⟨g, o + k * 3 + 1, none⟩) hg).trans x1
      have e2 := (hb.cell (p := ⟨g, o + k * 3 + 2, none⟩) hg).trans x2
      have hsn := textOf_snoc L k t ht
      have hlen := textOf_take L (k + 1)
      obtain ⟨kn, hkn⟩ : ∃ kn : Int, kn = ((t.kind : Nat) : Int) := ⟨_, rfl⟩
      obtain ⟨U, hU⟩ : ∃ U, U = bs t.text := ⟨_, rfl⟩
      obtain ⟨G, hGl⟩ : ∃ G, G = bs t.glyph := ⟨_, rfl⟩
      have hcell : Lib.byteCells (textOf (L.take (k + 1))) = Lib.byteCells (textOf (L.take k)) ++ Lib.strCells U := by
        rw [hsn, Lib.byteCells_append, Lib.strCells_eq, hU]; rfl
      have hle : (Lib.byteCells (textOf (L.take k))).length + U.size ≤ 140737488355328 := by
        have := HL.out
        rw [hsn, List.length_append] at hlen
        rw [Lib.byteCells_length, hU, bs_size]
        omega
      rw [← hkn] at e0
      rw [← hU] at e1
      rw [← hGl] at e2
      have HC := Lib.hid hcell
      have HLE := Lib.hid hle
      have HOA := Lib.hid (isB_alloc HO.out (.cells #[.int .i64 kn, .string U, .string G] 30))
      have HBA := Lib.hid (HB1.out.alloc HB1.out.size (.cells #[.int .i64 kn, .string U, .string G] 30))
      clear hb hcs x0 x1 x2 hv ht hsn hlen hkn hU hGl hcell hle
      go_wp2_with (go_at_call 21; refine (write_c w.heap.size w.heap.size _ U _ HOA.out HLE.out HBA.out.size).mono ?_; rintro e w2 ⟨rfl, h2, hb2⟩; have H2 := Lib.hid h2; have HB2 := Lib.hid (HBA.out.trans hb2); clear h2 hb2)
      go_roundw
      case rel => exact ⟨k + 1, by omega, by simp, by rw [HC.out]; exact H2.out, HB2.out⟩
      case measure => simp [intOf]; omega
    · obtain rfl : k = n := by omega
      have HT : Hid (textOf (L.take k) = textOf L) := Lib.hid (by rw [HN.out, List.take_length])
      have HE := Lib.hid (Tryd.Builder_String_any w.heap.size w.heap.size _ _ HO.out HB1.out.size)
      go_wp2_with (go_at_call 22; refine HE.out.mono ?_; rintro e w2 ⟨rfl, hb2⟩; have HB2 := Lib.hid hb2; clear hb2)
      go_ret
      exact ⟨by rw [HT.out]; rfl, HB1.out.trans HB2.out⟩
end Go.Proofs.YthnnjogkomhmfaaDoor
