/- The plain lexer: plain facts; tokens in memory (by wip/gen/rs_base.py). -/
import Derived.Test.YthbiflmmlcmncaaDoorChecked
import Derived.Shelf.Abstract
import Derived.Test.YthbiflmmlcmncaaDoorLxToks
import Derived.Test.YthbiflmmlcmncaaDoorPgRow
import Derived.Test.YthbiflmmlcmncaaDoorPgRng
import Derived.WalkKit
import Derived.RangeFuncRecord
import Derived.OwnWalk
import Derived.OwnWalkIn
import Derived.Maps.AppendAt
import Derived.Lib.Hide
import Derived.Laws.OwnMore
import Derived.Deep.AppendLies
import Derived.Outline
import Derived.Lib.Strings
import Derived.BigQuiet
import Derived.Deep.QuietTactic
import Derived.Laws.StructEq
namespace Go.Proofs.YthbiflmmlcmncaaDoor
namespace Rs
open Go Go.RowKit Go.Shelf
attribute [local go_sem] Oper.semAt_some
theorem byte_at (s : ByteArray) (k : Nat) (h : k < s.size) : s.data.toList[k]? = some s[k] := by
  rw [Array.getElem?_toList, Array.getElem?_eq_getElem h]
  rfl
theorem takeWhile_len {p : UInt8 → Bool} : ∀ {T : List UInt8} {k : Nat}, k ≤ T.length → (∀ j b, j < k → T[j]? = some b → p b = true) → (∀ b, T[k]? = some b → p b = false) → (T.takeWhile p).length = k
  | [], k, hk, _, _ => by simp at hk; subst hk; rfl
  | b :: r, 0, _, _, h2 => by simp [h2 b rfl]
  | b :: r, k + 1, hk, h1, h2 => by
    rw [List.takeWhile_cons, if_pos (h1 0 b (by omega) rfl), List.length_cons, takeWhile_len (k := k) (by simpa using hk) (fun j c hj e => h1 (j + 1) c (by omega) (by simpa using e)) (fun c e => h2 c (by simpa using e))]
/-- Which sign's glyph a text is. -/
def which (g : List UInt8) : Option Nat := (List.range 38).find? fun k => gl k == g
theorem which_none {g : List UInt8} : which g = none ↔ ∀ k, k < 38 → gl k ≠ g := by
  unfold which
  rw [List.find?_eq_none]
  constructor
  · intro h k hk e
    exact h k (List.mem_range.2 hk) (by simp [e])
  · intro h k hk e
    exact h k (List.mem_range.1 hk) (by simpa using e)
theorem which_some {g : List UInt8} {k : Nat} : which g = some k ↔ k < 38 ∧ gl k = g ∧ ∀ j, j < k → gl j ≠ g := by
  unfold which
  rw [List.find?_range_eq_some]
  simp
  constructor
  · rintro ⟨h1, h2, h3⟩; exact ⟨h2, h1, h3⟩
  · rintro ⟨h1, h2, h3⟩; exact ⟨h2, h1, h3⟩
theorem bs_inj {a b : List UInt8} (h : bs a = bs b) : a = b := by
  have := congrArg (fun x : ByteArray => x.data.toList) h
  simpa [bs] using this
theorem eqb_bs (a b : List UInt8) : ((bs a).toList == (bs b).toList) = (a == b) := by rw [ByteArray.toList_eq, ByteArray.toList_eq, bs_list, bs_list]
/-- The class of a text. -/
def cls (g : List UInt8) : Nat := match which g with
  | some k => cl k
  | none => 0
/-- What First tells: the glyph, or none. -/
def optG : Option Nat → List UInt8
  | some k => gl k
  | none => []
theorem glT_eq (T : List UInt8) : glT T = optG (firstK T) := by
  unfold glT optG
  cases firstK T <;> rfl
theorem which_gl : ∀ k, k < 38 → cls (gl k) = cl k := by decide +kernel
theorem cls_glT (T : List UInt8) : cls (glT T) = clsT T := by
  unfold glT clsT
  cases hf : firstK T with
  | none => decide +kernel
  | some k => exact which_gl k (firstK_some.1 hf).1
theorem clsT_le (T : List UInt8) : clsT T ≤ 6 := by
  unfold clsT
  split
  · exact cl_le _
  · omega
theorem ext_take (T : List UInt8) (n : Nat) : (bs T).extract 0 n = bs (T.take n) := by
  have h : ((bs T).extract 0 n).data.toList = T.take n := by
    rw [ByteArray.data_extract]
    simp [bs]
  have := congrArg bs h
  rwa [bs_of] at this
theorem ext_drop (T : List UInt8) (n : Nat) : (bs T).extract n (bs T).size = bs (T.drop n) := by
  have h : ((bs T).extract n (bs T).size).data.toList = T.drop n := by
    rw [ByteArray.data_extract]
    simp [bs, ByteArray.size, List.take_of_length_le]
  have := congrArg bs h
  rwa [bs_of] at this
theorem ext_mid (T : List UInt8) (n m : Nat) : (bs T).extract n m = bs ((T.take m).drop n) := by
  have h : ((bs T).extract n m).data.toList = (T.take m).drop n := by
    rw [ByteArray.data_extract]
    simp [bs, List.drop_take]
  have := congrArg bs h
  rwa [bs_of] at this
/-- A token as a value. -/
def tokV (t : Tk) : Value := .agg #[.int .i64 ((t.kind : Nat) : Int), .string (bs t.text), .string (bs t.glyph)]
/-- A token's cells. -/
def tokC (t : Tk) : Array Value := #[.int .i64 ((t.kind : Nat) : Int), .string (bs t.text), .string (bs t.glyph)]
/-- A call ends that tells a token. -/
theorem tok_ret {f : Func} {j h : Nat} {R : Ending → World → Prop} {a : Act} {W : World} {t : Tk} {cs : Array Value} (hr : f.results = #[.cell j 31]) (ha : a.tmps[j]? = some (.pointer (some ⟨h, 0, none⟩))) (hd : a.defers = [])
    (hrow : Row W h 31 cs) (hc : cs = tokC t) (hR : R (.returned (tokV t)) W) : bodyPost Tryd.prog f R Exit.ret a W := by
  subst hc
  have d0 := hrow.cell 0
  have d1 := hrow.cell 1
  have d2 := hrow.cell 2
  simp [tokC] at d0 d1 d2
  refine bodyPost_ret (v := tokV t) ?_ hd hR
  simp [results, hr, ha, go_sem, d0, d1, d2, tokV]
/-- A token's cells in memory, one by one. -/
theorem tok_cells {W : World} {h : Nat} {t : TypeId} {a b c : Value} (r : Row W h t #[a, b, c]) :
    W.cell? ⟨h, 0, none⟩ = some a ∧ W.cell? ⟨h, 1, none⟩ = some b ∧ W.cell? ⟨h, 2, none⟩ = some c ∧ W.frozen? ⟨h, 0, none⟩ = false ∧ W.frozen? ⟨h, 1, none⟩ = false ∧ W.frozen? ⟨h, 2, none⟩ = false := by
  have c0 := r.cell 0
  have c1 := r.cell 1
  have c2 := r.cell 2
  simp at c0 c1 c2
  exact ⟨c0, c1, c2, r.frozen 0, r.frozen 1, r.frozen 2⟩
/-- The cells written, one by one. -/
theorem tok_set {W : World} {h : Nat} {t : TypeId} {a b c : Value} (r : Row W h t #[a, b, c]) (x y z : Value) :
    Row (((W.setCell ⟨h, 0, none⟩ x).setCell ⟨h, 1, none⟩ y).setCell ⟨h, 2, none⟩ z) h t #[x, y, z] := ((r.set 0 x).set 1 y).set 2 z
theorem below_set3 {n : Nat} {w W : World} (h : Below n w W) (p q r : Addr) (hp : n ≤ p.block) (hq : n ≤ q.block) (hr : n ≤ r.block) (x y z : Value) :
    Below n w (((W.setCell p x).setCell q y).setCell r z) := ((h.setCell hp x).setCell hq y).setCell hr z
theorem bs_nil : bs [] = ⟨#[]⟩ := rfl
/-- A token's cells, as a list; some tokens' cells. -/
def tokL (t : Tk) : List Value := [.int .i64 ((t.kind : Nat) : Int), .string (bs t.text), .string (bs t.glyph)]
def cellsL (L : List Tk) : List Value := L.flatMap tokL
theorem cellsL_len : ∀ L : List Tk, (cellsL L).length = L.length * 3
  | [] => rfl
  | t :: L => by
    show (tokL t ++ cellsL L).length = _
    rw [List.length_append, cellsL_len L]
    simp [tokL]
    omega
theorem cellsL_snoc (L : List Tk) (t : Tk) : cellsL (L ++ [t]) = cellsL L ++ tokL t := by simp [cellsL]
theorem cellsL_get : ∀ (L : List Tk) (j i : Nat) (t : Tk), L[j]? = some t → i < 3 → (cellsL L)[j * 3 + i]? = (tokL t)[i]?
  | [], _, _, _, h, _ => by simp at h
  | x :: L, 0, i, t, h, hi => by
    obtain rfl : x = t := by simpa using h
    show (tokL x ++ cellsL L)[0 * 3 + i]? = _
    rw [List.getElem?_append_left (by simp [tokL]; omega)]
    simp
  | x :: L, j + 1, i, t, h, hi => by
    show (tokL x ++ cellsL L)[(j + 1) * 3 + i]? = _
    rw [List.getElem?_append_right (by simp [tokL]; omega)]
    have e : (j + 1) * 3 + i - (tokL x).length = j * 3 + i := by simp [tokL]; omega
    rw [e]
    exact cellsL_get L j i t (by simpa using h) hi
theorem tokL_one (t : Tk) : ∀ u ∈ tokL t, u.oneCell' = true := by
  intro u hu
  simp [tokL] at hu
  rcases hu with rfl | rfl | rfl <;> rfl
/-- THE SLICE VALUE v IS THE LIST L: where it is, and what its cells hold. -/
structure TL (W : World) (v : Value) (L : List Tk) : Prop where
  form : ∃ a0 c0, v = .slice a0 L.length c0 ∧ L.length ≤ c0 ∧ c0 ≤ maxLen
  cells : 0 < L.length → ∃ g o c0, v = .slice (some ⟨g, o, none⟩) L.length c0 ∧ g < W.heap.size ∧ ∀ j t, L[j]? = some t →
    W.cell? ⟨g, o + j * 3, none⟩ = some (.int .i64 ((t.kind : Nat) : Int)) ∧ W.cell? ⟨g, o + j * 3 + 1, none⟩ = some (.string (bs t.text)) ∧ W.cell? ⟨g, o + j * 3 + 2, none⟩ = some (.string (bs t.glyph))
theorem TL.below {W W' : World} {v : Value} {L : List Tk} (h : TL W v L) (hb : Below W.heap.size W W') : TL W' v L := by
  refine ⟨h.form, fun h0 => ?_⟩
  obtain ⟨g, o, c0, hv, hg, hc⟩ := h.cells h0
  refine ⟨g, o, c0, hv, Nat.lt_of_lt_of_le hg hb.size, fun j t hj => ?_⟩
  have hb2 : ∀ i, W'.cell? ⟨g, i, none⟩ = W.cell? ⟨g, i, none⟩ := fun i => hb.cell (p := ⟨g, i, none⟩) hg
  rw [hb2, hb2, hb2]
  exact hc j t hj
theorem TL.nil (W : World) : TL W (.slice none 0 0) [] := ⟨⟨none, 0, rfl, Nat.le_refl _, Nat.zero_le _⟩, fun h => by simp at h⟩
/-- v owns the list L, in a block from base on. -/
abbrev OwnL (W : World) (base : Nat) (v : Value) (L : List Tk) : Prop := W.ownsRow base 31 3 v L.length (cellsL L)
theorem OwnL.tl {W : World} {base : Nat} {v : Value} {L : List Tk} (hl : L.length ≤ maxLen) (h : OwnL W base v L) : TL W v L := by
  rcases h.2 with ⟨hv, h0⟩ | ⟨g, cap, cur, hv, hg, hh, h1, h2, h3, h4⟩
  · have : L = [] := List.length_eq_zero_iff.1 h0
    subst this
    rw [hv]
    exact TL.nil W
  · subst hv
    have hlt := (Array.getElem?_eq_some_iff.1 hh).1
    refine ⟨⟨_, cap, rfl, h1, h2⟩, fun _ => ⟨g, 0, cap, rfl, hlt, fun j t hj => ?_⟩⟩
    have hjl : j < L.length := (List.getElem?_eq_some_iff.1 hj).1
    have key : ∀ i, i < 3 → W.cell? ⟨g, j * 3 + i, none⟩ = (tokL t)[i]? := fun i hi => by
      rw [World.ownsRow.cellAt h (j * 3 + i) (by omega)]
      exact cellsL_get L j i t hj hi
    refine ⟨?_, ?_, ?_⟩
    · rw [Nat.zero_add]; exact key 0 (by omega)
    · rw [Nat.zero_add]; exact key 1 (by omega)
    · rw [Nat.zero_add]; exact key 2 (by omega)
theorem Tryd.infoTok : (Tryd.prog.info? 31).map (fun i => (i.zero, i.size, i.bytes)) = some (some (.agg #[.int .i64 0, .string ⟨#[]⟩, .string ⟨#[]⟩]), 3, 40) := by kernel_rfl
theorem info_tok : ∃ i, Tryd.prog.info? 31 = some i ∧ i.zero = some (.agg #[.int .i64 0, .string ⟨#[]⟩, .string ⟨#[]⟩]) ∧ i.size = 3 ∧ i.bytes = 40 := by
  have h := Tryd.infoTok
  cases hi : Tryd.prog.info? 31 with
  | none => rw [hi] at h; cases h
  | some i =>
    rw [hi] at h
    simp at h
    exact ⟨i, rfl, h.1, h.2.1, h.2.2⟩
theorem tk_ext {t u : Tk} (h1 : t.kind = u.kind) (h2 : t.text = u.text) (h3 : t.glyph = u.glyph) : t = u := by
  cases t; cases u; simp_all
theorem bs_ne {a b : List UInt8} (h : a ≠ b) : ((bs a).toList == (bs b).toList) = false := by
  rw [ByteArray.toList_eq, ByteArray.toList_eq, bs_list, bs_list]
  simpa using h
theorem sameUpTo {L M : List Tk} (hl : L.length = M.length) (h : ∀ j, j < L.length → L[j]? = M[j]?) : L = M :=
  List.ext_getElem? fun j => by
    rcases Nat.lt_or_ge j L.length with h1 | h1
    · exact h j h1
    · rw [List.getElem?_eq_none h1, List.getElem?_eq_none (by omega)]
theorem bs_app (a b : List UInt8) : bs a ++ bs b = bs (a ++ b) := by
  have h : (bs a ++ bs b).data.toList = a ++ b := by
    rw [ByteArray.data_append]
    simp [bs]
  have := congrArg bs h
  rwa [bs_of] at this
theorem below_dn {B : Nat} {a w : World} (h : Below B a w) (n : Nat) : Below B a (w.drewN n) := h.trans ⟨rfl, rfl, rfl, Nat.le_refl _, fun _ _ => rfl⟩
end Rs
end Go.Proofs.YthbiflmmlcmncaaDoor
