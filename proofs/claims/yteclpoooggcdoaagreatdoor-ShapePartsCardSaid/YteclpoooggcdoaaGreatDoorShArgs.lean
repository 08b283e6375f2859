/- Arguments that are arrays. -/
import Derived.Test.YteclpoooggcdoaaGreatDoorShLaid
import Derived.ChangeMaps5
import Derived.Deep.Slices
import Derived.Deep.Strs
import Derived.Carry
import Derived.ChangeAt
namespace Go.Proofs.YteclpoooggcdoaaGreatDoor.Ar
open Go Go.ChangeShapes Go.ChangeMaps Go.WideShapes Go.ChangeAt Go.RowKit

theorem cellsArr : Tryz.prog.cellsOf 24 = 3 := by kernel_rfl
theorem cellsInt : Tryz.prog.cellsOf 2 = 1 := by kernel_rfl
theorem cellsBool : Tryz.prog.cellsOf 4 = 1 := by kernel_rfl
theorem cellsInts : Tryz.prog.cellsOf 22 = 1 := by kernel_rfl
theorem laidOutT : laidOutB Tryz.prog = true := by kernel_rfl
theorem readableArr : Tryz.prog.readableRec 24 = true := by kernel_rfl
theorem ltArr : 24 < Tryz.prog.types.size := of_decide_eq_true (by kernel_rfl)

theorem add_spot {W : World} {a : Addr} {k : Nat} {v : Value} (h : W.cell? (a.add k) = some v) (h0 : k = 0) : a.spot = none := by
  subst h0
  unfold Addr.add at h
  rw [if_pos rfl] at h
  unfold World.cell? at h
  split at h
  · split at h
    · cases h
    · rename_i hs; simpa using hs
  · cases h

section
variable {H : Type} {enc : TypeId × Value → H} {W : World} {base : Nat}
set_option maxRecDepth 100000 in
/-- A slice of whatever its elements are. -/
theorem open_list {α : Type} (d : α) {t e : TypeId} {held : Bool} (sz : Nat) (ht : Tryz.prog.underlying t = some (.slice e)) (hsz : Tryz.prog.cellsOf e = sz) (hpos : 0 < sz) (E : α → List Value → Prop) (hE : ∀ n cs x, DataW.trod enc Tryz.prog W base (fun _ => true) held n e cs = some x → ∃ y, E y cs)
    {fuel : Nat} {cs : List Value} {x : DataW H × List MemPlace} (h : DataW.trod enc Tryz.prog W base (fun _ => true) held fuel t cs = some x) :
    ∃ (a0 : Option Addr) (c0 : Nat) (L : List α), cs = [.slice a0 L.length c0] ∧ L.length ≤ c0 ∧ c0 ≤ maxLen ∧ (0 < L.length → ∃ g o, a0 = some ⟨g, o, none⟩ ∧ g < W.heap.size) ∧ ∀ g o, a0 = some ⟨g, o, none⟩ → ∀ (j : Nat) (y : α), L[j]? = some y → ∃ cs', E y cs' ∧ cs'.length = sz ∧ ∀ i, i < sz → W.cell? ⟨g, o + j * sz + i, none⟩ = cs'[i]? := by
  rcases Go.Deep.open_slice ht h with ⟨rfl, _⟩ | ⟨a', len, cap, m, n, D, Pl, rfl, _, hlc, hcm, hm, _, hi⟩
  · exact ⟨none, 0, [], rfl, Nat.le_refl _, Nat.zero_le _, fun h => by simp at h, fun g o e => by cases e⟩
  · simp only [if_true] at hm
    have hx : ∀ j, ∃ y : α, j < len → ∃ cs', E y cs' ∧ cs'.length = sz ∧ ∀ i, i < sz → W.cell? ((a'.add (j * sz)).add i) = cs'[i]? := by
      intro j
      by_cases hj : j < len
      · obtain ⟨cs', hc, ht'⟩ := hi j (by omega)
        rw [hsz] at hc
        obtain ⟨_, hl, hat⟩ := World.cells?_some hc
        obtain ⟨y, hy⟩ := hE _ _ _ ht'
        exact ⟨y, fun _ => ⟨cs', hy, hl, hat⟩⟩
      · exact ⟨d, fun h => absurd h hj⟩
    obtain ⟨A, hA⟩ := Classical.axiomOfChoice hx
    have hlen : ((List.range len).map A).length = len := by simp
    have hspot : 0 < len → a'.spot = none := fun h0 => by
      obtain ⟨cs', _, hl, h1⟩ := hA 0 h0
      have h1 := h1 0 hpos
      rw [Nat.zero_mul] at h1
      have h2 : (a'.add 0).add 0 = a'.add 0 := rfl
      rw [h2, List.getElem?_eq_getElem (by omega)] at h1
      exact add_spot h1 rfl
    refine ⟨some a', cap, (List.range len).map A, by rw [hlen], by rw [hlen]; omega, by omega, fun h0 => ?_, ?_⟩
    · rw [hlen] at h0
      obtain ⟨b, off, sp⟩ := a'
      obtain rfl : sp = none := hspot h0
      refine ⟨b, off, rfl, ?_⟩
      obtain ⟨cs', _, hl, h1⟩ := hA 0 h0
      have h1 := h1 0 hpos
      rw [List.getElem?_eq_getElem (by omega)] at h1
      have := World.block_lt_of_cell? W _ h1
      unfold Addr.add at this
      simpa using this
    · intro g o e j y hj
      injection e with e
      subst e
      have hjl : j < len := by
        have := (List.getElem?_eq_some_iff.1 hj).1
        rw [hlen] at this
        exact this
      obtain rfl : A j = y := by simpa [hjl] using hj
      obtain ⟨cs', h1, h2, h3⟩ := hA j hjl
      refine ⟨cs', h1, h2, fun i hi => ?_⟩
      have hadd : ((⟨g, o, none⟩ : Addr).add (j * sz)).add i = ⟨g, o + j * sz + i, none⟩ := by
        unfold Addr.add
        split <;> split <;> simp_all
      rw [← hadd]
      exact h3 i hi
/-- Some numbers. -/
theorem open_nums {held : Bool} {fuel : Nat} {cs : List Value} {x : DataW H × List MemPlace} (h : DataW.trod enc Tryz.prog W base (fun _ => true) held fuel 22 cs = some x) : ∃ v A, cs = [v] ∧ KL W v A ∧ InL A := by
  obtain ⟨a0, c0, L, rfl, h1, h2, h3, h4⟩ := open_list (0 : Int) 1 Tryz.underlying22 cellsInt (by decide) (fun y cs => cs = [.int .i64 y] ∧ Nu.In y) (fun n cs x hx => by
    obtain ⟨z, e, _, hz⟩ := DataW.trod_int Tryz.underlying2 hx
    exact ⟨z, e, int_bounds hz⟩) h
  refine ⟨_, L, rfl, ⟨⟨_, _, rfl, h1, h2⟩, fun h0 => ?_⟩, fun y hy => ?_⟩
  · obtain ⟨g, o, e, hg⟩ := h3 h0
    subst e
    refine ⟨g, o, c0, rfl, hg, fun j y hj => ?_⟩
    obtain ⟨cs', ⟨rfl, _⟩, _, hc⟩ := h4 g o rfl j y hj
    have := hc 0 (by omega)
    rw [Nat.mul_one] at this
    exact this
  · obtain ⟨j, hj⟩ := List.mem_iff_getElem?.1 hy
    obtain ⟨g, o, e, hg⟩ := h3 (by have := (List.getElem?_eq_some_iff.1 hj).1; omega)
    obtain ⟨cs', ⟨_, h⟩, _, _⟩ := h4 g o e j y hj
    exact h
set_option maxRecDepth 100000 in
/-- The arguments. -/
theorem open_ary {v : Value} {d : DataW H} {p : List MemPlace} (hval : Value.okWide Tryz.prog W .any base 24 v) (h : DataW.Trod enc Tryz.prog W 0 (fun _ => true) true 24 v d p) :
    ∃ a s, v = aryV a s ∧ KL W s a.n ∧ InL a.n := by
  obtain ⟨cs, rfl, hsz⟩ := okWide_struct Tryz.underlying24 hval
  obtain ⟨fuel, hf⟩ := h
  obtain ⟨ys, n', _, _, hcl, hyl, hf⟩ := DataW.trod_struct Tryz.underlying24 hf
  have e0 : (Value.agg cs).cells.toList = cs.toList := rfl
  rw [e0] at hcl hf
  rw [cellsArr] at hcl
  obtain ⟨L⟩ := cs
  dsimp only at hcl hf ⊢
  match L, hcl, ys, hyl with
  | [c0, c1, c2], _, [y0, y1, y2], _ =>
    have h0 : DataW.trod enc Tryz.prog W 0 (fun _ => true) true n' 4 (([c0, c1, c2].drop 0).take (Tryz.prog.cellsOf 4)) = some y0 := hf 0 _ rfl
    have h1 : DataW.trod enc Tryz.prog W 0 (fun _ => true) true n' 4 (([c0, c1, c2].drop 1).take (Tryz.prog.cellsOf 4)) = some y1 := hf 1 _ rfl
    have h2 : DataW.trod enc Tryz.prog W 0 (fun _ => true) true n' 22 (([c0, c1, c2].drop 2).take (Tryz.prog.cellsOf 22)) = some y2 := hf 2 _ rfl
    rw [cellsBool] at h0 h1
    rw [cellsInts] at h2
    obtain ⟨z0, e0, _⟩ := DataW.trod_bool Tryz.underlying4 h0
    obtain ⟨z1, e1, _⟩ := DataW.trod_bool Tryz.underlying4 h1
    obtain ⟨kv, A, e2, hk, hi⟩ := open_nums h2
    simp at e0 e1 e2
    exact ⟨⟨z0, z1, A⟩, kv, by rw [e0, e1, e2], hk, hi⟩
end
end Go.Proofs.YteclpoooggcdoaaGreatDoor.Ar
