/- An argument that is some splices, opened. -/
import Derived.Test.YtdgffpcbpilkcaaGreatDoorRyF
import Derived.Test.YtdgffpcbpilkcaaGreatDoorRxLaid
import Derived.ChangeMaps5
import Derived.Deep.Slices
import Derived.Carry
namespace Go.Proofs.YtdgffpcbpilkcaaGreatDoor
open Go Go.ChangeShapes Go.ChangeMaps Go.WideShapes Go.ChangeAt Go.RowKit

theorem cellsAct : Tryz.prog.cellsOf 37 = 3 := by kernel_rfl
theorem cellsInt : Tryz.prog.cellsOf 3 = 1 := by kernel_rfl
theorem laidOutT : laidOutB Tryz.prog = true := by kernel_rfl
theorem readableActs : Tryz.prog.readableRec 22 = true := by kernel_rfl
theorem ltActs : 22 < Tryz.prog.types.size := of_decide_eq_true (by kernel_rfl)

set_option maxRecDepth 100000 in
/-- One splice's three cells. -/
theorem open_act {H : Type} {enc : TypeId × Value → H} {W : World} {base n : Nat} {spare : Nat → Bool} {held : Bool} {cs : List Value} {x : DataW H × List MemPlace} (h : DataW.trod enc Tryz.prog W base spare held n 37 cs = some x) :
    ∃ (y : Int × Int × ByteArray), cs = acCells y := by
  obtain ⟨ys, n', _, _, hcl, hyl, hf⟩ := DataW.trod_struct Tryz.underlying37 h
  rw [cellsAct] at hcl
  match cs, hcl, ys, hyl with
  | [c0, c1, c2], _, [y0, y1, y2], _ =>
    have h0 : DataW.trod enc Tryz.prog W base spare held n' 3 (([c0, c1, c2].drop 0).take (Tryz.prog.cellsOf 3)) = some y0 := hf 0 _ rfl
    have h1 : DataW.trod enc Tryz.prog W base spare held n' 3 (([c0, c1, c2].drop 1).take (Tryz.prog.cellsOf 3)) = some y1 := hf 1 _ rfl
    have h2 : DataW.trod enc Tryz.prog W base spare held n' 9 (([c0, c1, c2].drop 2).take (Tryz.prog.cellsOf 9)) = some y2 := hf 2 _ rfl
    rw [cellsInt] at h0 h1
    rw [cellsStr] at h2
    obtain ⟨z0, e0, _⟩ := DataW.trod_int Tryz.underlying3 h0
    obtain ⟨z1, e1, _⟩ := DataW.trod_int Tryz.underlying3 h1
    obtain ⟨z2, e2, _⟩ := DataW.trod_string Tryz.underlying9 h2
    simp at e0 e1 e2
    exact ⟨(z0, z1, z2), by rw [e0, e1, e2]; rfl⟩

theorem add_spot {W : World} {a : Addr} {k : Nat} {v : Value} (h : W.cell? (a.add k) = some v) (h0 : k = 0) : a.spot = none := by
  subst h0
  unfold Addr.add at h
  rw [if_pos rfl] at h
  unfold World.cell? at h
  split at h
  · split at h
    · cases h
    · rename_i hs; simpa using hs
  · cases h

set_option maxRecDepth 100000 in
/-- The argument. -/
theorem open_acts {H : Type} {enc : TypeId × Value → H} {W : World} {base : Nat} {v : Value} {d : DataW H} {p : List MemPlace} (hval : Value.okWide Tryz.prog W .any base 22 v) (h : DataW.Trod enc Tryz.prog W 0 (fun _ => true) true 22 v d p) :
    ∃ A len, ActsIn 0 W.heap.size W v A len := by
  obtain ⟨a, len, cap, rfl⟩ := okWide_slice Tryz.underlying22 hval
  obtain ⟨fuel, hf⟩ := h
  rcases Go.Deep.open_slice Tryz.underlying22 hf with ⟨e, _⟩ | ⟨a', len', cap', m, n, D, Pl, e, _, hlc, hcm, hm, _, hi⟩
  · simp [Value.cells] at e
    obtain ⟨rfl, rfl, rfl⟩ := e
    exact ⟨fun _ => (0, 0, ⟨#[]⟩), 0, none, 0, rfl, Nat.zero_le _, fun h => by omega⟩
  · simp [Value.cells] at e
    obtain ⟨rfl, rfl, rfl⟩ := e
    simp only [if_true] at hm
    have hx : ∀ j, ∃ y : Int × Int × ByteArray, j < len → ∀ i, i < 3 → W.cell? ((a'.add (j * 3)).add i) = (acCells y)[i]? := by
      intro j
      by_cases hj : j < len
      · obtain ⟨cs', hc, ht⟩ := hi j (by omega)
        rw [cellsAct] at hc
        obtain ⟨_, _, hat⟩ := World.cells?_some hc
        obtain ⟨y, rfl⟩ := open_act ht
        exact ⟨y, fun _ => hat⟩
      · exact ⟨(0, 0, ⟨#[]⟩), fun h => absurd h hj⟩
    obtain ⟨A, hA⟩ := Classical.axiomOfChoice hx
    refine ⟨A, len, some a', cap, rfl, by omega, fun h0 => ?_⟩
    have hs : a'.spot = none := by
      have h1 := hA 0 h0 0 (by omega)
      rw [Nat.zero_mul] at h1
      have h2 : (a'.add 0).add 0 = a'.add 0 := rfl
      rw [h2] at h1
      exact add_spot h1 rfl
    obtain ⟨b, off, sp⟩ := a'
    obtain rfl : sp = none := hs
    have hadd : ∀ j i, ((⟨b, off, none⟩ : Addr).add (j * 3)).add i = ⟨b, off + j * 3 + i, none⟩ := by
      intro j i
      unfold Addr.add
      split <;> split <;> simp_all
    have key : ∀ j, j < len → ∀ i, i < 3 → W.cell? ⟨b, off + j * 3 + i, none⟩ = (acCells (A j))[i]? := fun j hj i hi => by
      rw [← hadd]; exact hA j hj i hi
    refine ⟨b, off, rfl, Nat.zero_le _, ?_, fun j hj => ⟨key j hj 0 (by omega), key j hj 1 (by omega), key j hj 2 (by omega)⟩⟩
    have := World.block_lt_of_cell? W _ (key 0 h0 0 (by omega))
    exact this
end Go.Proofs.YtdgffpcbpilkcaaGreatDoor
