/- Numbers are appended to those that are owned; a list that may be written into. -/
import Derived.Test.YthlkgfplffdiaaaGreatDoorArOwn
import Derived.Laws.AppendOwn
namespace Go.Proofs.YthlkgfplffdiaaaGreatDoor.Ar
open Go Go.RowKit Go.Shelf

theorem nums_one (L : List Int) : ∀ u ∈ nums L, u.oneCell' = true := fun u hu => by
  obtain ⟨x, _, rfl⟩ := List.mem_map.1 hu
  rfl
theorem nums_app (L M : List Int) : nums (L ++ M) = nums L ++ nums M := by simp [nums]
theorem grown_refl (W : World) (r : Option Nat) : W.grownBy W r := ⟨rfl, rfl, rfl, Nat.le_refl _, fun _ _ _ => rfl⟩
theorem run_append_kl {W : World} {base : Nat} {ty : TypeId} {v u : Value} {L A : List Int} (hv : IOwn W base v L) (hu : KL W u A) (hl : L.length + A.length ≤ 100000000) (hb : base ≤ W.heap.size) :
    ∃ v' W', (Builtin.append_ #[22, 22] ty #[v, u]).run Tryz.prog W = .ok v' W' ∧ IOwn W' base v' (L ++ A) ∧ W.grownBy W' v.ownBlock := by
  obtain ⟨i0, hi, hz0, hz1, hz2⟩ := infoI
  obtain ⟨a0, c0, rfl, h1, h2⟩ := hu.form
  have key : ∀ (ad : Addr), (∀ (j : Nat) (z : Value), (nums A)[j]? = some z → W.cell? (ad.add j) = some z) → ∃ v' W', (Builtin.append_ #[22, 22] ty #[v, .slice (some ad) A.length c0]).run Tryz.prog W = .ok v' W' ∧ IOwn W' base v' (L ++ A) ∧ W.grownBy W' v.ownBlock := fun ad hc => by
    obtain ⟨v', W', hr, ho, hg, _⟩ := run_append_own (P := Tryz.prog) W base 22 ty 2 i0 (.int .i64 0) 1 8 Tryz.underlying22 hi hz0 hz1 hz2 rfl (by decide) v L.length (nums L) hv ad A.length c0 (nums A) (by rw [nums_len]; omega) hc (nums_one A) (by unfold maxLen; omega) (by omega) hb
    refine ⟨v', W', hr, ?_, hg⟩
    show World.ownsRow _ _ _ _ _ _ _
    rw [List.length_append, nums_app]
    exact ho
  rcases Nat.eq_zero_or_pos A.length with h0 | h0
  · obtain rfl : A = [] := List.length_eq_zero_iff.1 h0
    cases a0 with
    | some ad => exact key ad (fun j z h => by simp [nums] at h)
    | none =>
      refine ⟨v, W, ?_, by rw [List.append_nil]; exact hv, grown_refl _ _⟩
      have hv' := hv
      change World.ownsRow _ _ _ _ _ _ _ at hv'
      rcases hv'.2 with ⟨rfl, hz⟩ | ⟨g, cap, cur, rfl, _, _, hnc, _⟩
      · simp [Builtin.append_, run_underlying Tryz.underlying22, sizeOf, typeInfo, hi, Builtin.lenOf, Builtin.firstCells]
      · simp [Builtin.append_, run_underlying Tryz.underlying22, sizeOf, typeInfo, hi, Builtin.lenOf, Builtin.firstCells, hnc, storeCells]
  · obtain ⟨g, o, c1, e, hg, hc⟩ := hu.cells h0
    injection e with e _ _
    subst e
    refine key _ (fun j z hz => ?_)
    obtain ⟨x, hx⟩ : ∃ x, A[j]? = some x := ⟨_, List.getElem?_eq_getElem (by have := (List.getElem?_eq_some_iff.1 hz).1; rw [nums_len] at this; exact this)⟩
    have e1 : (⟨g, o, none⟩ : Addr).add j = ⟨g, o + j, none⟩ := by simp [Addr.add]
    rw [e1, hc j x hx, ← hz, nums_at hx]
/-- append(v, u...) in a walk. -/
theorem wpList_append_kl {w : World} {ops : Array Oper} {rest : List Oper} {o : Oper} {a : Act} {Q : Exit → Act → World → Prop} (hgd : o.guard = none) (s x : Operand)
    (ho : o.op = .call { callee := .builtin .append, args := #[s, x], argTypes := #[22, 22] })
    (base : Nat) (v u : Value) (L A : List Int) (hs : a.eval s = v) (hx : a.eval x = u) (hv : IOwn w base v L) (hu : KL w u A) (hl : L.length + A.length ≤ 100000000) (hb : base ≤ w.heap.size)
    (h : ∀ v' w', IOwn w' base v' (L ++ A) → w.grownBy w' v.ownBlock → wpList Tryz.prog ops Q rest (a.put o.dst v') w') : wpList Tryz.prog ops Q (o :: rest) a w :=
  wpList_plain hgd fun _ hK => by
    obtain ⟨v', w', hr, h2, h3⟩ := run_append_kl (ty := o.type) hv hu hl hb
    unfold Oper.wp execOp
    simp only [ho, resolve, invoke, builtin, Sem.run_bind, Sem.run_pure, Result.andThen_ok, List.map_toArray, List.map_cons, List.map_nil, hs, hx, hr]
    exact hK _ _ (h v' w' h2 h3)
/-- A list of n numbers that may be written into. -/
def OwnC (W : World) (base n : Nat) (v : Value) : Prop := n = 0 ∨ ∃ g c cur, v = .slice (some ⟨g, 0, none⟩) n c ∧ base ≤ g ∧ Row W g 2 cur ∧ n ≤ cur.size ∧ n ≤ 1000000
theorem IOwn.ownc {W : World} {base : Nat} {v : Value} {L : List Int} (h : IOwn W base v L) (hl : L.length ≤ 1000000) : OwnC W base L.length v := by
  have h' := h
  change World.ownsRow _ _ _ _ _ _ _ at h'
  rcases h'.2 with ⟨_, h0⟩ | ⟨g, cap, cur, rfl, h1, hg, h3, h4, h5, _⟩
  · exact .inl h0
  · exact .inr ⟨g, cap, cur, rfl, h1, hg, by omega, hl⟩
/-- One is written. -/
theorem OwnC.put {W : World} {base n g c : Nat} {cur : Array Value} (hr : Row W g 2 cur) (hb : base ≤ g) (hn : n ≤ cur.size) (hn1 : n ≤ 1000000) (k : Nat) (x : Value) : OwnC (W.setCell ⟨g, k, none⟩ x) base n (.slice (some ⟨g, 0, none⟩) n c) :=
  .inr ⟨g, c, _, rfl, hb, hr.set k x, by simpa using hn, hn1⟩
theorem OwnC.other {W : World} {base n g k : Nat} {v x : Value} (h : OwnC W base n v) (hb : g < base) : OwnC (W.setCell ⟨g, k, none⟩ x) base n v := by
  rcases h with h | ⟨g', c, cur, rfl, h1, h2, h3⟩
  · exact .inl h
  · exact .inr ⟨g', c, cur, rfl, h1, h2.other (by omega) _, h3⟩
theorem OwnC.below {W W' : World} {base n : Nat} {v : Value} (h : OwnC W base n v) (hb : Below W.heap.size W W') : OwnC W' base n v := by
  rcases h with h | ⟨g', c, cur, rfl, h1, h2, h3⟩
  · exact .inl h
  · exact .inr ⟨g', c, cur, rfl, h1, Row.below h2 hb (Row.lt h2), h3⟩
end Go.Proofs.YthlkgfplffdiaaaGreatDoor.Ar
