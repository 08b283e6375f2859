/- An argument that is some tokens (by wip/gen/gr_base.py). -/
import Derived.Test.YthbiflmmlcmncaaDoorGrTok
import Derived.ChangeMaps5
import Derived.Deep.Slices
import Derived.Carry
import Derived.ChangeAt
namespace Go.Proofs.YthbiflmmlcmncaaDoor.Ti
open Go Go.ChangeShapes Go.ChangeMaps Go.WideShapes Go.ChangeAt Go.RowKit

theorem cellsTok : Tryd.prog.cellsOf 31 = 3 := by kernel_rfl
theorem cellsInt : Tryd.prog.cellsOf 3 = 1 := by kernel_rfl
theorem cellsStr : Tryd.prog.cellsOf 9 = 1 := by kernel_rfl
theorem laidOutT : laidOutB Tryd.prog = true := by kernel_rfl
theorem readableToks : Tryd.prog.readableRec 22 = true := by kernel_rfl
theorem ltToks : 22 < Tryd.prog.types.size := of_decide_eq_true (by kernel_rfl)

set_option maxRecDepth 100000 in
/-- One token's three cells. -/
theorem open_tok {H : Type} {enc : TypeId × Value → H} {W : World} {base n : Nat} {spare : Nat → Bool} {held : Bool} {cs : List Value} {x : DataW H × List MemPlace} (h : DataW.trod enc Tryd.prog W base spare held n 31 cs = some x) :
    ∃ (y : Tk), cs = tokL y := by
  obtain ⟨ys, n', _, _, hcl, hyl, hf⟩ := DataW.trod_struct Tryd.underlying31 h
  rw [cellsTok] at hcl
  match cs, hcl, ys, hyl with
  | [c0, c1, c2], _, [y0, y1, y2], _ =>
    have h0 : DataW.trod enc Tryd.prog W base spare held n' 3 (([c0, c1, c2].drop 0).take (Tryd.prog.cellsOf 3)) = some y0 := hf 0 _ rfl
    have h1 : DataW.trod enc Tryd.prog W base spare held n' 9 (([c0, c1, c2].drop 1).take (Tryd.prog.cellsOf 9)) = some y1 := hf 1 _ rfl
    have h2 : DataW.trod enc Tryd.prog W base spare held n' 9 (([c0, c1, c2].drop 2).take (Tryd.prog.cellsOf 9)) = some y2 := hf 2 _ rfl
    rw [cellsInt] at h0
    rw [cellsStr] at h1 h2
    obtain ⟨z0, e0, _⟩ := DataW.trod_int Tryd.underlying3 h0
    obtain ⟨z1, e1, _⟩ := DataW.trod_string Tryd.underlying9 h1
    obtain ⟨z2, e2, _⟩ := DataW.trod_string Tryd.underlying9 h2
    simp at e0 e1 e2
    exact ⟨⟨z0, z1.data.toList, z2.data.toList⟩, by rw [e0, e1, e2]; simp [tokL, bs_of]⟩

theorem add_spot {W : World} {a : Addr} {k : Nat} {v : Value} (h : W.cell? (a.add k) = some v) (h0 : k = 0) : a.spot = none := by
  subst h0
  unfold Addr.add at h
  rw [if_pos rfl] at h
  unfold World.cell? at h
  split at h
  · split at h
    · cases h
    · rename_i hs; simpa using hs
  · cases h

set_option maxRecDepth 100000 in
/-- The argument. -/
theorem open_toks {H : Type} {enc : TypeId × Value → H} {W : World} {base : Nat} {v : Value} {d : DataW H} {p : List MemPlace} (hval : Value.okWide Tryd.prog W .any base 22 v) (h : DataW.Trod enc Tryd.prog W 0 (fun _ => true) true 22 v d p) :
    ∃ L, TL W v L := by
  obtain ⟨a, len, cap, rfl⟩ := okWide_slice Tryd.underlying22 hval
  obtain ⟨fuel, hf⟩ := h
  rcases Go.Deep.open_slice Tryd.underlying22 hf with ⟨e, _⟩ | ⟨a', len', cap', m, n, D, Pl, e, _, hlc, hcm, hm, _, hi⟩
  · simp [Value.cells] at e
    obtain ⟨rfl, rfl, rfl⟩ := e
    exact ⟨[], TL.nil W⟩
  · simp [Value.cells] at e
    obtain ⟨rfl, rfl, rfl⟩ := e
    simp only [if_true] at hm
    have hx : ∀ j, ∃ y : Tk, j < len → ∀ i, i < 3 → W.cell? ((a'.add (j * 3)).add i) = (tokL y)[i]? := by
      intro j
      by_cases hj : j < len
      · obtain ⟨cs', hc, ht⟩ := hi j (by omega)
        rw [cellsTok] at hc
        obtain ⟨_, _, hat⟩ := World.cells?_some hc
        obtain ⟨y, rfl⟩ := open_tok ht
        exact ⟨y, fun _ => hat⟩
      · exact ⟨⟨0, [], []⟩, fun h => absurd h hj⟩
    obtain ⟨A, hA⟩ := Classical.axiomOfChoice hx
    have hlen : ((List.range len).map A).length = len := by simp
    refine ⟨(List.range len).map A, ⟨some a', cap, by rw [hlen], by rw [hlen]; omega, by omega⟩, fun h0 => ?_⟩
    rw [hlen] at h0
    have hs : a'.spot = none := by
      have h1 := hA 0 h0 0 (by omega)
      rw [Nat.zero_mul] at h1
      have h2 : (a'.add 0).add 0 = a'.add 0 := rfl
      rw [h2] at h1
      exact add_spot h1 rfl
    obtain ⟨b, off, sp⟩ := a'
    obtain rfl : sp = none := hs
    have hadd : ∀ j i, ((⟨b, off, none⟩ : Addr).add (j * 3)).add i = ⟨b, off + j * 3 + i, none⟩ := by
      intro j i
      unfold Addr.add
      split <;> split <;> simp_all
    have key : ∀ j, j < len → ∀ i, i < 3 → W.cell? ⟨b, off + j * 3 + i, none⟩ = (tokL (A j))[i]? := fun j hj i hi => by
      rw [← hadd]; exact hA j hj i hi
    refine ⟨b, off, cap, by rw [hlen], ?_, fun j t hj => ?_⟩
    · have := World.block_lt_of_cell? W _ (key 0 h0 0 (by omega))
      exact this
    · have hjl : j < len := by
        have := (List.getElem?_eq_some_iff.1 hj).1
        rw [hlen] at this
        exact this
      obtain rfl : A j = t := by simpa [hjl] using hj
      exact ⟨key j hjl 0 (by omega), key j hjl 1 (by omega), key j hjl 2 (by omega)⟩
end Go.Proofs.YthbiflmmlcmncaaDoor.Ti
