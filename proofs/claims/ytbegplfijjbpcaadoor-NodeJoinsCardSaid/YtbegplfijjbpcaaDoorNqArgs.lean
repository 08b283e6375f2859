/- Arguments that are some nodes, or some lists of nodes. -/
import Derived.Test.YtbegplfijjbpcaaDoorNqJoin
import Derived.ChangeMaps5
import Derived.Deep.Slices
import Derived.Carry
import Derived.ChangeAt
namespace Go.Proofs.YtbegplfijjbpcaaDoor.No
open Go Go.ChangeShapes Go.ChangeMaps Go.WideShapes Go.ChangeAt Go.RowKit

theorem cellsNode : Tryd.prog.cellsOf 42 = 3 := by kernel_rfl
theorem cellsInt : Tryd.prog.cellsOf 3 = 1 := by kernel_rfl
theorem cellsStr : Tryd.prog.cellsOf 9 = 1 := by kernel_rfl
theorem cellsInts : Tryd.prog.cellsOf 40 = 1 := by kernel_rfl
theorem cellsNodes : Tryd.prog.cellsOf 22 = 1 := by kernel_rfl
theorem laidOutT : laidOutB Tryd.prog = true := by kernel_rfl
theorem readableNodes : Tryd.prog.readableRec 22 = true := by kernel_rfl
theorem ltNodes : 22 < Tryd.prog.types.size := of_decide_eq_true (by kernel_rfl)
theorem readableLists : Tryd.prog.readableRec 29 = true := by kernel_rfl
theorem ltLists : 29 < Tryd.prog.types.size := of_decide_eq_true (by kernel_rfl)

theorem add_spot {W : World} {a : Addr} {k : Nat} {v : Value} (h : W.cell? (a.add k) = some v) (h0 : k = 0) : a.spot = none := by
  subst h0
  unfold Addr.add at h
  rw [if_pos rfl] at h
  unfold World.cell? at h
  split at h
  · split at h
    · cases h
    · rename_i hs; simpa using hs
  · cases h

section
variable {H : Type} {enc : TypeId × Value → H} {W : World} {base : Nat}
set_option maxRecDepth 100000 in
/-- A slice of whatever its elements are. -/
theorem open_list {α : Type} (d : α) {t e : TypeId} {held : Bool} (sz : Nat) (ht : Tryd.prog.underlying t = some (.slice e)) (hsz : Tryd.prog.cellsOf e = sz) (hpos : 0 < sz) (E : α → List Value → Prop) (hE : ∀ n cs x, DataW.trod enc Tryd.prog W base (fun _ => true) held n e cs = some x → ∃ y, E y cs)
    {fuel : Nat} {cs : List Value} {x : DataW H × List MemPlace} (h : DataW.trod enc Tryd.prog W base (fun _ => true) held fuel t cs = some x) :
    ∃ (a0 : Option Addr) (c0 : Nat) (L : List α), cs = [.slice a0 L.length c0] ∧ L.length ≤ c0 ∧ c0 ≤ maxLen ∧ (0 < L.length → ∃ g o, a0 = some ⟨g, o, none⟩ ∧ g < W.heap.size) ∧ ∀ g o, a0 = some ⟨g, o, none⟩ → ∀ (j : Nat) (y : α), L[j]? = some y → ∃ cs', E y cs' ∧ cs'.length = sz ∧ ∀ i, i < sz → W.cell? ⟨g, o + j * sz + i, none⟩ = cs'[i]? := by
  rcases Go.Deep.open_slice ht h with ⟨rfl, _⟩ | ⟨a', len, cap, m, n, D, Pl, rfl, _, hlc, hcm, hm, _, hi⟩
  · exact ⟨none, 0, [], rfl, Nat.le_refl _, Nat.zero_le _, fun h => by simp at h, fun g o e => by cases e⟩
  · simp only [if_true] at hm
    have hx : ∀ j, ∃ y : α, j < len → ∃ cs', E y cs' ∧ cs'.length = sz ∧ ∀ i, i < sz → W.cell? ((a'.add (j * sz)).add i) = cs'[i]? := by
      intro j
      by_cases hj : j < len
      · obtain ⟨cs', hc, ht'⟩ := hi j (by omega)
        rw [hsz] at hc
        obtain ⟨_, hl, hat⟩ := World.cells?_some hc
        obtain ⟨y, hy⟩ := hE _ _ _ ht'
        exact ⟨y, fun _ => ⟨cs', hy, hl, hat⟩⟩
      · exact ⟨d, fun h => absurd h hj⟩
    obtain ⟨A, hA⟩ := Classical.axiomOfChoice hx
    have hlen : ((List.range len).map A).length = len := by simp
    have hspot : 0 < len → a'.spot = none := fun h0 => by
      obtain ⟨cs', _, hl, h1⟩ := hA 0 h0
      have h1 := h1 0 hpos
      rw [Nat.zero_mul] at h1
      have h2 : (a'.add 0).add 0 = a'.add 0 := rfl
      rw [h2, List.getElem?_eq_getElem (by omega)] at h1
      exact add_spot h1 rfl
    refine ⟨some a', cap, (List.range len).map A, by rw [hlen], by rw [hlen]; omega, by omega, fun h0 => ?_, ?_⟩
    · rw [hlen] at h0
      obtain ⟨b, off, sp⟩ := a'
      obtain rfl : sp = none := hspot h0
      refine ⟨b, off, rfl, ?_⟩
      obtain ⟨cs', _, hl, h1⟩ := hA 0 h0
      have h1 := h1 0 hpos
      rw [List.getElem?_eq_getElem (by omega)] at h1
      have := World.block_lt_of_cell? W _ h1
      unfold Addr.add at this
      simpa using this
    · intro g o e j y hj
      injection e with e
      subst e
      have hjl : j < len := by
        have := (List.getElem?_eq_some_iff.1 hj).1
        rw [hlen] at this
        exact this
      obtain rfl : A j = y := by simpa [hjl] using hj
      obtain ⟨cs', h1, h2, h3⟩ := hA j hjl
      refine ⟨cs', h1, h2, fun i hi => ?_⟩
      have hadd : ((⟨g, o, none⟩ : Addr).add (j * sz)).add i = ⟨g, o + j * sz + i, none⟩ := by
        unfold Addr.add
        split <;> split <;> simp_all
      rw [← hadd]
      exact h3 i hi
/-- Some numbers. -/
theorem open_ints {held : Bool} {fuel : Nat} {cs : List Value} {x : DataW H × List MemPlace} (h : DataW.trod enc Tryd.prog W base (fun _ => true) held fuel 40 cs = some x) : ∃ v A, cs = [v] ∧ KL W v A := by
  obtain ⟨a0, c0, L, rfl, h1, h2, h3, h4⟩ := open_list (0 : Int) 1 Tryd.underlying40 cellsInt (by decide) (fun y cs => cs = [.int .i64 y]) (fun n cs x hx => by
    obtain ⟨z, e, _⟩ := DataW.trod_int Tryd.underlying3 hx
    exact ⟨z, e⟩) h
  refine ⟨_, L, rfl, ⟨_, _, rfl, h1, h2⟩, fun h0 => ?_⟩
  obtain ⟨g, o, e, hg⟩ := h3 h0
  subst e
  refine ⟨g, o, c0, rfl, hg, fun j y hj => ?_⟩
  obtain ⟨cs', rfl, _, hc⟩ := h4 g o rfl j y hj
  have := hc 0 (by omega)
  rw [Nat.mul_one] at this
  exact this
set_option maxRecDepth 100000 in
/-- One node's three cells. -/
theorem open_node {held : Bool} {n : Nat} {cs : List Value} {x : DataW H × List MemPlace} (h : DataW.trod enc Tryd.prog W base (fun _ => true) held n 42 cs = some x) :
    ∃ (y : Nd), ∃ kv, cs = [.int .i64 y.kind, .string (bs y.text), kv] ∧ KL W kv y.kids ∧ y.text.length ≤ maxLen := by
  obtain ⟨ys, n', _, _, hcl, hyl, hf⟩ := DataW.trod_struct Tryd.underlying42 h
  rw [cellsNode] at hcl
  match cs, hcl, ys, hyl with
  | [c0, c1, c2], _, [y0, y1, y2], _ =>
    have h0 : DataW.trod enc Tryd.prog W base (fun _ => true) held n' 3 (([c0, c1, c2].drop 0).take (Tryd.prog.cellsOf 3)) = some y0 := hf 0 _ rfl
    have h1 : DataW.trod enc Tryd.prog W base (fun _ => true) held n' 9 (([c0, c1, c2].drop 1).take (Tryd.prog.cellsOf 9)) = some y1 := hf 1 _ rfl
    have h2 : DataW.trod enc Tryd.prog W base (fun _ => true) held n' 40 (([c0, c1, c2].drop 2).take (Tryd.prog.cellsOf 40)) = some y2 := hf 2 _ rfl
    rw [cellsInt] at h0
    rw [cellsStr] at h1
    rw [cellsInts] at h2
    obtain ⟨z0, e0, _⟩ := DataW.trod_int Tryd.underlying3 h0
    obtain ⟨z1, e1, _, hz⟩ := DataW.trod_string Tryd.underlying9 h1
    obtain ⟨kv, A, e2, hk⟩ := open_ints h2
    simp at e0 e1 e2
    refine ⟨⟨z0, z1.data.toList, A⟩, kv, by rw [e0, e1, e2]; simp [bs_of], hk, ?_⟩
    show z1.data.toList.length ≤ maxLen
    rw [← Lib.size_eq]
    exact hz
/-- Some nodes. -/
theorem open_nds {held : Bool} {fuel : Nat} {cs : List Value} {x : DataW H × List MemPlace} (h : DataW.trod enc Tryd.prog W base (fun _ => true) held fuel 22 cs = some x) : ∃ v T, cs = [v] ∧ NL W v T ∧ ∀ x ∈ T, x.text.length ≤ maxLen := by
  obtain ⟨a0, c0, L, rfl, h1, h2, h3, h4⟩ := open_list (⟨0, [], []⟩ : Nd) 3 Tryd.underlying22 cellsNode (by decide) (fun y cs => ∃ kv, cs = [.int .i64 y.kind, .string (bs y.text), kv] ∧ KL W kv y.kids ∧ y.text.length ≤ maxLen) (fun n cs x hx => open_node hx) h
  refine ⟨_, L, rfl, ⟨⟨_, _, rfl, h1, h2⟩, fun h0 => ?_⟩, fun y hy => ?_⟩
  · obtain ⟨g, o, e, hg⟩ := h3 h0
    subst e
    refine ⟨g, o, c0, rfl, hg, fun j y hj => ?_⟩
    obtain ⟨cs', ⟨kv, rfl, hk, _⟩, _, hc⟩ := h4 g o rfl j y hj
    exact ⟨hc 0 (by omega), hc 1 (by omega), kv, hc 2 (by omega), hk⟩
  · obtain ⟨j, hj⟩ := List.mem_iff_getElem?.1 hy
    obtain ⟨g, o, e, hg⟩ := h3 (by have := (List.getElem?_eq_some_iff.1 hj).1; omega)
    obtain ⟨cs', ⟨kv, rfl, hk, ht⟩, _, hc⟩ := h4 g o e j y hj
    exact ht
/-- Some lists of nodes. -/
theorem open_lls {held : Bool} {fuel : Nat} {cs : List Value} {x : DataW H × List MemPlace} (h : DataW.trod enc Tryd.prog W base (fun _ => true) held fuel 29 cs = some x) : ∃ v KS, cs = [v] ∧ LL W v KS ∧ ∀ K ∈ KS, ∀ x ∈ K, x.text.length ≤ maxLen := by
  obtain ⟨a0, c0, L, rfl, h1, h2, h3, h4⟩ := open_list ([] : List Nd) 1 Tryd.underlying29 cellsNodes (by decide) (fun K cs => ∃ u, cs = [u] ∧ NL W u K ∧ ∀ x ∈ K, x.text.length ≤ maxLen) (fun n cs x hx => by
    obtain ⟨v, T, e, h⟩ := open_nds hx
    exact ⟨T, v, e, h⟩) h
  refine ⟨_, L, rfl, ⟨⟨_, _, rfl, h1, h2⟩, fun h0 => ?_⟩, fun K hK => ?_⟩
  · obtain ⟨g, o, e, hg⟩ := h3 h0
    subst e
    refine ⟨g, o, c0, rfl, hg, fun j K hj => ?_⟩
    obtain ⟨cs', ⟨u, rfl, hu, _⟩, _, hc⟩ := h4 g o rfl j K hj
    have := hc 0 (by omega)
    rw [Nat.mul_one] at this
    exact ⟨u, this, hu⟩
  · obtain ⟨j, hj⟩ := List.mem_iff_getElem?.1 hK
    obtain ⟨g, o, e, hg⟩ := h3 (by have := (List.getElem?_eq_some_iff.1 hj).1; omega)
    obtain ⟨cs', ⟨u, rfl, hu, ht⟩, _, hc⟩ := h4 g o e j K hj
    exact ht
set_option maxRecDepth 100000 in
/-- The arguments. -/
theorem open_nodes {v : Value} {d : DataW H} {p : List MemPlace} (hval : Value.okWide Tryd.prog W .any base 22 v) (h : DataW.Trod enc Tryd.prog W 0 (fun _ => true) true 22 v d p) :
    ∃ T, NL W v T ∧ ∀ x ∈ T, x.text.length ≤ maxLen := by
  obtain ⟨a, len, cap, rfl⟩ := okWide_slice Tryd.underlying22 hval
  obtain ⟨fuel, hf⟩ := h
  obtain ⟨u, T, e, hT⟩ := open_nds hf
  simp [Value.cells] at e
  rw [e]
  exact ⟨T, hT⟩
set_option maxRecDepth 100000 in
theorem open_lists {v : Value} {d : DataW H} {p : List MemPlace} (hval : Value.okWide Tryd.prog W .any base 29 v) (h : DataW.Trod enc Tryd.prog W 0 (fun _ => true) true 29 v d p) :
    ∃ KS, LL W v KS ∧ ∀ K ∈ KS, ∀ x ∈ K, x.text.length ≤ maxLen := by
  obtain ⟨a, len, cap, rfl⟩ := okWide_slice Tryd.underlying29 hval
  obtain ⟨fuel, hf⟩ := h
  obtain ⟨u, T, e, hT⟩ := open_lls hf
  simp [Value.cells] at e
  rw [e]
  exact ⟨T, hT⟩
end
end Go.Proofs.YtbegplfijjbpcaaDoor.No
