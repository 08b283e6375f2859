/- slices.All over some tokens: the iterator's contract, for loops that speak of blocks of other types. The matcher goes through the tokens. -/
import Derived.Test.YthbiflmmlcmncaaDoorGrTok
import Derived.Test.YthbiflmmlcmncaaDoorLxRng
import Derived.RangeFuncNested
import Derived.RangeFuncBound
import Derived.RangeFuncCalls
import Derived.RangeFuncLeaves
import Derived.Shelf.Abstract
import Derived.Shelf.RegionOpen
import Derived.WalkKit
import Derived.OwnWalkIn
import Derived.TacticsInMore
import Derived.LoopNIn
import Derived.LoopIn
import Derived.Test.YthbiflmmlcmncaaDoorGrMat
/- slices.All over some tokens: the iterator's contract, for loops that speak of blocks of other types. -/
namespace Go.Proofs.YthbiflmmlcmncaaDoor.Ti
open Go Go.RowKit Go.Shelf
attribute [local go_sem] Oper.semAt_some

/-- Token k of a list. -/
def tokAt (L : List Tk) (k : Nat) : Tk := L[k]?.getD ⟨0, [], []⟩
theorem tokAt_of {L : List Tk} {k : Nat} (h : k < L.length) : L[k]? = some (tokAt L k) := by
  unfold tokAt
  rw [List.getElem?_eq_getElem h]
  rfl
def encA (L : List Tk) {len : Nat} (x : Ix len) : Array Value := #[.int .i64 (x.1 : Int), .agg #[.int .i64 (tokAt L x.1).kind, .string (bs (tokAt L x.1).text), .string (bs (tokAt L x.1).glyph)]]

set_option maxRecDepth 100000 in
set_option maxHeartbeats 2000000 in
theorem all1_in (F : Fence) (n : Nat) (hf : F.fn 71) (hro : F.round = none) (hn : 1 ≤ n) (l Bp n₀ len cap : Nat) (a0 : Option Addr) (L : List Tk) (hL : L.length = len) (hlen : len ≤ 1000000)
    (J Jx : List (Ix len) → World → Prop) (b₀ : Nat) (hJ : AbT 31 b₀ J)
    (hY : ∀ pre x W, J pre W → pre.length < len → b₀ ≤ W.heap.size → YieldAt F (n - 1) Tryd.prog l (encA L x) W fun e W' =>
      (e = .returned (.bool true) ∧ J (pre ++ [x]) W' ∧ Below n₀ W W') ∨ (e = .returned (.bool false) ∧ Jx (pre ++ [x]) W'))
    (W : World) (hb0 : b₀ ≤ W.heap.size) (hn0 : n₀ ≤ W.heap.size) (hB : W.cell? ⟨Bp, 0, none⟩ = some (.slice a0 len cap)) (hc : 0 < len → ∃ g o, a0 = some ⟨g, o, none⟩ ∧ g < n₀ ∧ ∀ j t, L[j]? = some t → W.cell? ⟨g, o + j * 3, none⟩ = some (.int .i64 t.kind) ∧ W.cell? ⟨g, o + j * 3 + 1, none⟩ = some (.string (bs t.text)) ∧ W.cell? ⟨g, o + j * 3 + 2, none⟩ = some (.string (bs t.glyph))) (h0 : J [] W) :
    CallsIn F n Tryd.prog 71 #[.func (.yield l) #[] #[], .pointer (some ⟨Bp, 0, none⟩)] W fun e W' => (∃ v, e = .returned v) ∧
      ((∃ ys : List (Ix len), ys.map (·.1) = List.range len ∧ J ys W') ∨ (∃ pre : List (Ix len), (∃ k, k ≤ len ∧ pre.map (·.1) = List.range k) ∧ Jx pre W')) := by
  refine callsIn_of_wp Tryd.func71 rfl hf ?_ hro
  simp only [Tryd.ntmps71, List.size_toArray, List.length_cons, List.length_nil, Nat.reduceAdd, Nat.reduceSub, Array.replicate_succ, Array.replicate_zero, List.push_toArray, List.append_toArray, List.nil_append, List.cons_append]
  have HC := Lib.hid hc
  clear hc
  gi_wp2
  gi_loopw [7] (fun i wr => ∃ (k : Nat) (pre : List (Ix len)), k ≤ len ∧ i = .int .i64 k ∧ pre.map (·.1) = List.range k ∧ J pre wr ∧ Below n₀ W wr ∧ b₀ ≤ wr.heap.size)
    (fun i _ => len - (intOf i).toNat)
  case atStart => exact ⟨0, [], Nat.zero_le _, rfl, rfl, h0, Below.refl _ _, hb0⟩
  case round =>
    obtain ⟨k, pre, hk, rfl, hpre, hJs, hnx, hbr⟩ := hrel
    by_cases hlt : k < len
    · obtain ⟨g, o, rfl, hg, hcl⟩ := HC.out (by omega)
      obtain ⟨x0, x1, x2⟩ := hcl k _ (tokAt_of (by omega))
      obtain ⟨S, hS⟩ : ∃ S, S = bs (tokAt L k).text := ⟨_, rfl⟩
      obtain ⟨G, hG⟩ : ∃ S, S = bs (tokAt L k).glyph := ⟨_, rfl⟩
      obtain ⟨K, hK⟩ : ∃ a, a = (tokAt L k).kind := ⟨_, rfl⟩
      have hst : StepT 31 b₀ wr (wr.alloc (.cells #[.int .i64 K, .string S, .string G] 31)) := ⟨(Below.refl _ wr).alloc hbr _, fun k o ho _ => (Below.heap_alloc wr _ k (Array.getElem?_eq_some_iff.1 ho).1).trans ho⟩
      have hyy := hY _ ⟨k, hlt⟩ _ (hJ _ _ _ hJs hst) (by rw [(inOrder_of hpre).2]; exact hlt) (by rw [World.size_alloc]; omega)
      unfold encA at hyy
      dsimp only at hyy
      rw [← hS, ← hG, ← hK] at hyy
      rw [← hS] at x1
      rw [← hG] at x2
      rw [← hK] at x0
      obtain ⟨fn, tmps, assign, body, hy, hR⟩ := hyy
      have c0 := (hnx.cell (p := ⟨g, o + k * 3, none⟩) hg).trans x0
      have c1 := (hnx.cell (p := ⟨g, o + k * 3 + 1, none⟩) hg).trans x1
      have c2 := (hnx.cell (p := ⟨g, o + k * 3 + 2, none⟩) hg).trans x2
      have HP : Hid ((pre ++ [(⟨k, hlt⟩ : Ix len)]).map (·.1) = List.range (k + 1)) := range_snoc hpre hlt
      have hwn : n₀ ≤ wr.heap.size := Nat.le_trans hn0 hnx.size
      have hrl : (k : Int) < (len : Int) := by omega
      clear hpre x0 x1 x2 hS hG hK hst hcl
      gi_wp2
      refine hR.mono ?_
      rintro e W3 (⟨rfl, hJ3, hk3⟩ | ⟨rfl, hJx3⟩)
      · gi_wp2
        go_roundw
        case rel => exact ⟨k + 1, pre ++ [⟨k, hlt⟩], by omega, by simp, HP.out, hJ3, (hnx.alloc hwn _).trans hk3, by have := hk3.size; simp at this; omega⟩
        case measure => simp [intOf]; omega
      · gi_wp2
        refine bodyPost_ret (results_none rfl _ _ _) rfl ?_
        exact ⟨⟨_, rfl⟩, .inr ⟨_, ⟨k + 1, by omega, HP.out⟩, hJx3⟩⟩
    · obtain rfl : k = len := by omega
      have HQ : Hid (pre.map (·.1) = List.range k) := hpre
      clear hpre
      gi_wp2
      go_end0
      exact ⟨⟨_, rfl⟩, .inl ⟨pre, HQ.out, hJs⟩⟩

/-- slices.All(l) goes through all tokens, each with its place; or through the first k of them. -/
theorem all_stops (F : Fence) (n : Nat) (hf : F.fn 71) (hro : F.round = none) (hn : 1 ≤ n) (Bp n₀ len cap : Nat) (a0 : Option Addr) (L : List Tk) (hL : L.length = len) (hlen : len ≤ 1000000)
    (w : World) (hn0 : n₀ ≤ w.heap.size) (hBp : Bp < w.heap.size) (hB : w.cell? ⟨Bp, 0, none⟩ = some (.slice a0 len cap)) (hc : 0 < len → ∃ g o, a0 = some ⟨g, o, none⟩ ∧ g < n₀ ∧ ∀ j t, L[j]? = some t → w.cell? ⟨g, o + j * 3, none⟩ = some (.int .i64 t.kind) ∧ w.cell? ⟨g, o + j * 3 + 1, none⟩ = some (.string (bs t.text)) ∧ w.cell? ⟨g, o + j * 3 + 2, none⟩ = some (.string (bs t.glyph))) :
    SeqStopsT 31 F n Tryd.prog 71 #[.pointer (some ⟨Bp, 0, none⟩)] (encA L) (Below n₀) (fun ys : List (Ix len) => ys.map (·.1) = List.range len)
      (fun pre => ∃ k, k ≤ len ∧ pre.map (·.1) = List.range k) len w := fun l J Jx W hW hJ _ hY h0 => by
  have c1 := (hW.cell (p := ⟨Bp, 0, none⟩) hBp).trans hB
  refine all1_in F n hf hro hn l Bp n₀ len cap a0 L hL hlen J Jx _ hJ (fun pre x W1 h1 h2 h3 => hY pre x W1 h1 h2 h3) W (Nat.le_refl _) (Nat.le_trans hn0 hW.size) c1 (fun h => ?_) h0
  obtain ⟨g, o, h1, h2, h3⟩ := hc h
  exact ⟨g, o, h1, h2, fun j t hj => ⟨(hW.cell (p := ⟨g, o + j * 3, none⟩) (by show g < _; omega)).trans (h3 j t hj).1, (hW.cell (p := ⟨g, o + j * 3 + 1, none⟩) (by show g < _; omega)).trans (h3 j t hj).2.1, (hW.cell (p := ⟨g, o + j * 3 + 2, none⟩) (by show g < _; omega)).trans (h3 j t hj).2.2⟩⟩
set_option maxRecDepth 100000 in
theorem all_in (F : Fence) (n : Nat) (hf : F.fn 56) (hro : F.round = none) (a : Option Addr) (k c : Nat) (w : World) :
    CallsIn F n Tryd.prog 56 #[.slice a k c] w fun e w' => e = .returned (.func (.func 71) #[] #[.pointer (some ⟨w.heap.size, 0, none⟩)]) ∧ w' = w.alloc (.cells #[.slice a k c] 22) := by
  refine callsIn_of_wp Tryd.func56 rfl hf ?_ hro
  simp only [Tryd.ntmps56, List.size_toArray, List.length_cons, List.length_nil, Nat.reduceAdd, Nat.reduceSub, Array.replicate_succ, Array.replicate_zero, List.push_toArray, List.append_toArray, List.nil_append, List.cons_append]
  gi_wp2
  go_ret
  exact ⟨rfl, rfl⟩
end Go.Proofs.YthbiflmmlcmncaaDoor.Ti

/- The matcher goes through the tokens. -/
namespace Go.Proofs.YthbiflmmlcmncaaDoor.Ti
open Go Go.RowKit Go.Shelf
attribute [local go_sem] Oper.semAt_some

/-- A token without its bytes; what would close a bracket; those that wait, as the program keeps them. -/
def bareT (t : Tk) : Tk := ⟨t.kind, [], t.glyph⟩
def clT (o : Tk) : Tk := ⟨8, [], if o.glyph = [40] then [41] else [125]⟩
def zT : Tk := ⟨0, [], []⟩
def wts (S : List (Nat × Tk)) : List Wt := (S.map fun x => (x.1, clT x.2)).reverse
theorem wts_cons (x : Nat × Tk) (S : List (Nat × Tk)) : wts (x :: S) = wts S ++ [(x.1, clT x.2)] := by simp [wts]
theorem wts_nil : wts [] = [] := rfl
theorem wts_len (S : List (Nat × Tk)) : (wts S).length = S.length := by simp [wts]
/-- One round: what waits and the partners behind it, or nothing, if it is over. -/
def stepM (t : Tk) (k : Nat) (wl : List Wt) (P : List Int) : Option (List Wt × List Int) :=
  if isO t then some (wl ++ [(k, clT t)], P)
  else if isC t then
    match wl.getLast? with
    | none => none
    | some x => if bareT t = x.2 then some (wl.dropLast, (P.set x.1 (k : Int)).set k (x.1 : Int)) else none
  else some (wl, P)
theorem fit_iff {o t : Tk} (ho : isO o = true) (hc : isC t = true) : fit o t = true ↔ bareT t = clT o := by
  simp only [isO, isC, Bool.and_eq_true, Bool.or_eq_true, decide_eq_true_eq] at ho hc
  unfold fit bareT clT
  obtain ⟨h1, h2⟩ := hc
  rcases ho.2 with h3 | h3 <;> rcases h2 with h4 | h4 <;> simp [h1, h3, h4]
/-- A round is a step. -/
theorem stepM_step {L : List Tk} {k n : Nat} {t : Tk} {s : St} (hs : stAt L k = some s) (ht : L[k]? = some t) :
    match step1 t k s with
    | some u => stepM t k (wts s.1) (parts n s.2) = some (wts u.1, parts n u.2)
    | none => stepM t k (wts s.1) (parts n s.2) = none := by
  have hk : k < L.length := (List.getElem?_eq_some_iff.1 ht).1
  have hI := inv_at L k s (by omega) hs
  obtain ⟨S, ps⟩ := s
  unfold step1 stepM
  by_cases h1 : isO t = true
  · rw [if_pos h1, if_pos h1]
    dsimp only
    rw [wts_cons]
  · rw [if_neg h1, if_neg h1]
    by_cases h2 : isC t = true
    · rw [if_pos h2, if_pos h2]
      dsimp only
      cases S with
      | nil => rfl
      | cons x st =>
        obtain ⟨a, o⟩ := x
        obtain ⟨q1, q2, q3, _⟩ := hI.wait [] a o st rfl
        dsimp only
        rw [wts_cons, List.getLast?_append, List.getLast?_singleton]
        dsimp only [Option.or]
        have hf := fit_iff q3 h2
        by_cases h3 : fit o t = true
        · rw [if_pos h3, if_pos (hf.1 h3)]
          dsimp only
          rw [List.dropLast_concat, parts_put n a k ps (by omega)]
        · rw [if_neg h3, if_neg (fun e => h3 (hf.2 e))]
    · rw [if_neg h2, if_neg h2]
/-- What the loop keeps, whatever the order. -/
structure LI (L : List Tk) (n k : Nat) (wl : List Wt) (P : List Int) : Prop where
  len : P.length = n
  lt : ∀ x ∈ wl, x.1 < n
theorem look_other {t : Tk} (h1 : isO t = false) (h2 : isC t = false) (es : List Nat) : askP t.kind t.glyph es.zipIdx 0 = none := by
  refine ask_none _ _ (fun p hp e => ?_)
  obtain ⟨e1, e2⟩ := e
  simp only [isO, isC, Bool.and_eq_false_iff, Bool.or_eq_false_iff, decide_eq_false_iff_not] at h1 h2
  have h3 := h1.resolve_left (fun h => h e1)
  have h4 := h2.resolve_left (fun h => h e1)
  obtain ⟨j, hj⟩ : ∃ j, j = p.1 := ⟨_, rfl⟩
  rw [← hj] at e2
  match j, e2 with
  | 0, e2 => exact h3.1 e2
  | 1, e2 => exact h4.1 e2
  | 2, e2 => exact h3.2 e2
  | (j + 3), e2 => exact h4.2 e2
theorem look_at {j : Nat} (hj : j < 4) {es : List Nat} (hall : ∀ j, j ∈ es ↔ j < 4) : ∃ q, askP 8 (kk j) es.zipIdx 0 = some (q, sg (vv j)) := by
  refine ask_some hj _ _ (fun p hp => ?_) ?_
  · obtain ⟨p1, p2⟩ := p
    have := List.mem_zipIdx hp
    refine (hall p1).1 ?_
    rw [this.2.2]
    exact List.getElem_mem _
  · have hm := (hall j).2 hj
    obtain ⟨i, hi, e⟩ := List.getElem_of_mem hm
    exact ⟨(j, i), by rw [List.mem_zipIdx_iff_getElem?]; simp [← e], rfl⟩
/-- What the map tells of a token: nothing, or what closes it. -/
theorem look_tok (t : Tk) {W : World} {m : Nat} {es : List Nat} (h : MapAt W m es) (hall : ∀ j, j ∈ es ↔ j < 4) :
    (Instr.lookup 61 (.map (some m)) (.agg #[.int .i64 t.kind, .string ⟨#[]⟩, .string (bs t.glyph)]) true).run Tryd.prog W = .ok
      (if isO t then .tuple #[sg (clT t).glyph, .bool true] else if isC t then .tuple #[sg t.glyph, .bool true] else .tuple #[.agg #[.int .i64 0, .string ⟨#[]⟩, .string ⟨#[]⟩], .bool false]) W := by
  have hne : es ≠ [] := fun e => by have := (hall 0).2 (by omega); rw [e] at this; cases this
  have key : ∀ j, j < 4 → t.kind = 8 → t.glyph = kk j → (Instr.lookup 61 (.map (some m)) (.agg #[.int .i64 t.kind, .string ⟨#[]⟩, .string (bs t.glyph)]) true).run Tryd.prog W = .ok (.tuple #[sg (vv j), .bool true]) W := fun j hj hk hg => by
    obtain ⟨q, hq⟩ := look_at hj hall
    rw [hk, hg]
    exact look_map h hne _ hq
  by_cases h1 : isO t = true
  · rw [if_pos h1]
    have h2 := h1
    simp only [isO, Bool.and_eq_true, Bool.or_eq_true, decide_eq_true_eq] at h2
    rcases h2.2 with h3 | h3
    · rw [key 0 (by omega) h2.1 h3]; simp [clT, h3, vv]
    · rw [key 2 (by omega) h2.1 h3]; simp [clT, h3, vv]
  · rw [if_neg h1]
    by_cases h3 : isC t = true
    · rw [if_pos h3]
      have h2 := h3
      simp only [isC, Bool.and_eq_true, Bool.or_eq_true, decide_eq_true_eq] at h2
      rcases h2.2 with h4 | h4
      · rw [key 1 (by omega) h2.1 h4, h4]; rfl
      · rw [key 3 (by omega) h2.1 h4, h4]; rfl
    · rw [if_neg h3]
      exact look_map h hne none (look_other (by simpa using h1) (by simpa using h3) es)
/-- One more token, in order. -/
theorem ord_some {n : Nat} {L : List Tk} (hL : L.length = n) {pre : List (Ix n)} {x : Ix n} {wl wl' : List Wt} {P P' : List Int} (h : InOrder pre → ∃ s, stAt L pre.length = some s ∧ wl = wts s.1 ∧ P = parts n s.2) (hs : stepM (tokAt L x.1) x.1 wl P = some (wl', P')) :
    InOrder (pre ++ [x]) → ∃ s, stAt L (pre ++ [x]).length = some s ∧ wl' = wts s.1 ∧ P' = parts n s.2 := fun hin => by
  obtain ⟨h1, h2⟩ := inOrder_snoc.1 hin
  obtain ⟨s, q1, rfl, rfl⟩ := h h1
  have ht : L[x.1]? = some (tokAt L x.1) := tokAt_of (by rw [hL]; exact x.2)
  rw [← h2] at q1
  have hk := stepM_step (n := n) q1 ht
  rw [List.length_append, List.length_singleton, ← h2, stAt_succ ht, q1]
  show ∃ s', step1 (tokAt L x.1) x.1 s = some s' ∧ _
  cases hu : step1 (tokAt L x.1) x.1 s with
  | none => rw [hu] at hk; dsimp only at hk; rw [hk] at hs; cases hs
  | some u => rw [hu] at hk; dsimp only at hk; rw [hk] at hs; cases hs; exact ⟨u, rfl, rfl, rfl⟩
theorem ord_none {n : Nat} {L : List Tk} (hL : L.length = n) {pre : List (Ix n)} {x : Ix n} {wl : List Wt} {P : List Int} (h : InOrder pre → ∃ s, stAt L pre.length = some s ∧ wl = wts s.1 ∧ P = parts n s.2) (hs : stepM (tokAt L x.1) x.1 wl P = none) :
    InOrder (pre ++ [x]) → stAt L (pre ++ [x]).length = none := fun hin => by
  obtain ⟨h1, h2⟩ := inOrder_snoc.1 hin
  obtain ⟨s, q1, rfl, rfl⟩ := h h1
  have ht : L[x.1]? = some (tokAt L x.1) := tokAt_of (by rw [hL]; exact x.2)
  rw [← h2] at q1
  have hk := stepM_step (n := n) q1 ht
  rw [List.length_append, List.length_singleton, ← h2, stAt_succ ht, q1]
  show step1 (tokAt L x.1) x.1 s = none
  cases hu : step1 (tokAt L x.1) x.1 s with
  | none => rfl
  | some u => rw [hu] at hk; dsimp only at hk; rw [hk] at hs; cases hs
end Go.Proofs.YthbiflmmlcmncaaDoor.Ti
