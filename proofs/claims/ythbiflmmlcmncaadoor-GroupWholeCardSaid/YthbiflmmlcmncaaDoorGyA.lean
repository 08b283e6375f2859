/- Brackets: partners, depths, parts. Nothing of the program stands here. Signs and brackets: is a token one. The plain answers: do two brackets belong to each other. Numbers in memory; two lists of them, apart. What Deep, Split and Inside answer. Nothing of the program stands here. Lists of tokens in lists; a part of a list. Brackets: what is inside, in brackets, one behind the other. Nothing of the program stands here. -/
import Derived.Test.YthbiflmmlcmncaaDoorGrTok
import Derived.WalkKit
import Derived.BigQuiet
import Derived.Deep.QuietTactic
import Derived.Laws.StructEq
/- Brackets: partners, depths, parts. Nothing of the program stands here. -/
namespace Go.Proofs.YthbiflmmlcmncaaDoor.Ti
open Go Go.RowKit

/-- Is it a bracket that opens; that closes; do two belong to each other? -/
def isO (t : Tk) : Bool := decide (t.kind = 8) && (decide (t.glyph = [40]) || decide (t.glyph = [123]))
def isC (t : Tk) : Bool := decide (t.kind = 8) && (decide (t.glyph = [41]) || decide (t.glyph = [125]))
def fit (o c : Tk) : Bool := (decide (o.glyph = [40]) && decide (c.glyph = [41])) || (decide (o.glyph = [123]) && decide (c.glyph = [125]))
theorem isO_isC {t : Tk} (h : isO t = true) : isC t = false := by
  simp only [isO, isC, Bool.and_eq_true, Bool.or_eq_true, decide_eq_true_eq] at h ⊢
  rcases h with ⟨h1, h2 | h2⟩ <;> simp [h1, h2]

abbrev St : Type := List (Nat × Tk) × List (Nat × Nat)
/-- One token more: those that wait, and the pairs. -/
def step1 (t : Tk) (i : Nat) (s : St) : Option St :=
  if isO t then some ((i, t) :: s.1, s.2)
  else if isC t then
    match s.1 with
    | [] => none
    | x :: st => if fit x.2 t then some (st, (x.1, i) :: s.2) else none
  else some s
def run : List Tk → Nat → St → Option St
  | [], _, s => some s
  | t :: r, i, s => (step1 t i s).bind (run r (i + 1))
theorem run_append : ∀ (l m : List Tk) (i : Nat) (s : St), run (l ++ m) i s = (run l i s).bind (run m (i + l.length))
  | [], m, i, s => rfl
  | t :: l, m, i, s => by
    show (step1 t i s).bind (run (l ++ m) (i + 1)) = ((step1 t i s).bind (run l (i + 1))).bind _
    cases step1 t i s with
    | none => rfl
    | some u =>
      show run (l ++ m) (i + 1) u = (run l (i + 1) u).bind _
      rw [run_append l m (i + 1) u]
      congr 2
      simp only [List.length_cons]
      omega
/-- What waits, and the pairs, behind k tokens. -/
def stAt (L : List Tk) (k : Nat) : Option St := run (L.take k) 0 ([], [])
theorem stAt_zero (L : List Tk) : stAt L 0 = some ([], []) := rfl
theorem stAt_succ {L : List Tk} {k : Nat} {t : Tk} (h : L[k]? = some t) : stAt L (k + 1) = (stAt L k).bind (step1 t k) := by
  have hlt : k < L.length := (List.getElem?_eq_some_iff.1 h).1
  unfold stAt
  rw [List.take_add_one, h]
  show run (L.take k ++ [t]) 0 _ = _
  rw [run_append, List.length_take, Nat.min_eq_left (by omega), Nat.zero_add]
  congr 1
  funext s
  show (step1 t k s).bind (fun s => some s) = _
  cases step1 t k s <;> rfl
theorem stAt_len (L : List Tk) : stAt L L.length = run L 0 ([], []) := by unfold stAt; rw [List.take_length]
theorem stAt_none {L : List Tk} {k : Nat} (h : stAt L k = none) (d : Nat) : stAt L (k + d) = none := by
  unfold stAt at h ⊢
  have e : L.take (k + d) = L.take k ++ (L.drop k).take d := by rw [← List.take_add]
  rw [e, run_append, h]
  rfl
theorem stAt_some {L : List Tk} {k : Nat} {s : St} (h : stAt L L.length = some s) (hk : k ≤ L.length) : ∃ u, stAt L k = some u := by
  cases hu : stAt L k with
  | some u => exact ⟨u, rfl⟩
  | none =>
    have := stAt_none hu (L.length - k)
    rw [Nat.add_sub_cancel' hk, h] at this
    cases this
/-- How deep it is behind k tokens. -/
def dpt (L : List Tk) (k : Nat) : Nat := match stAt L k with
  | some s => s.1.length
  | none => 0
/-- How deep token k is. -/
def depT (L : List Tk) (k : Nat) : Nat := match L[k]? with
  | some t => if isC t then dpt L (k + 1) else dpt L k
  | none => 0
/-- The partner of a place, by the pairs. -/
def part : List (Nat × Nat) → Nat → Int
  | [], _ => -1
  | p :: r, k => if k = p.1 then (p.2 : Int) else if k = p.2 then (p.1 : Int) else part r k
def parts (n : Nat) (ps : List (Nat × Nat)) : List Int := (List.range n).map (part ps)
theorem parts_len (n : Nat) (ps : List (Nat × Nat)) : (parts n ps).length = n := by simp [parts]
theorem parts_at {n k : Nat} (ps : List (Nat × Nat)) (h : k < n) : (parts n ps)[k]? = some (part ps k) := by
  simp [parts, h]
theorem parts_put (n a i : Nat) (ps : List (Nat × Nat)) (hai : a ≠ i) : parts n ((a, i) :: ps) = ((parts n ps).set a (i : Int)).set i (a : Int) := by
  apply List.ext_getElem?
  intro k
  rw [List.getElem?_set, List.getElem?_set]
  simp only [List.length_set, parts_len]
  by_cases hk : k < n
  · rw [parts_at _ hk, parts_at _ hk]
    simp only [part]
    by_cases h1 : k = a
    · subst h1
      rw [if_neg (Ne.symm hai), if_pos rfl, if_pos hk, if_pos rfl]
    · rw [if_neg h1]
      by_cases h2 : k = i
      · subst h2
        rw [if_pos rfl, if_pos rfl, if_pos hk]
      · rw [if_neg h2, if_neg (Ne.symm h2), if_neg (Ne.symm h1)]
  · have e1 : (parts n ((a, i) :: ps))[k]? = none := List.getElem?_eq_none (by rw [parts_len]; omega)
    have e2 : (parts n ps)[k]? = none := List.getElem?_eq_none (by rw [parts_len]; omega)
    rw [e1, e2]
    split
    · rw [if_neg (by omega)]
    · split
      · rw [if_neg (by omega)]
      · rfl

/-! ### What is known of the state behind k tokens -/
structure Inv (L : List Tk) (k : Nat) (s : St) : Prop where
  wait : ∀ (X : List (Nat × Tk)) (a : Nat) (o : Tk) (B : List (Nat × Tk)), s.1 = X ++ (a, o) :: B → a < k ∧ L[a]? = some o ∧ isO o = true ∧ (∃ p, stAt L a = some (B, p)) ∧ ∀ j, a < j → j ≤ k → ∃ Y q, stAt L j = some (Y ++ (a, o) :: B, q)
  pair : ∀ a b, (a, b) ∈ s.2 → a < b ∧ b < k ∧ ∃ o c B, L[a]? = some o ∧ isO o = true ∧ L[b]? = some c ∧ isC c = true ∧ (∃ p, stAt L a = some (B, p)) ∧ (∃ q, stAt L (b + 1) = some (B, q)) ∧ ∀ j, a < j → j ≤ b → ∃ Y q, stAt L j = some (Y ++ (a, o) :: B, q)
  opens : ∀ j t, j < k → L[j]? = some t → isO t = true → (∃ o, (j, o) ∈ s.1) ∨ ∃ b, (j, b) ∈ s.2
  closes : ∀ j t, j < k → L[j]? = some t → isC t = true → ∃ a, (a, j) ∈ s.2
  one1 : ∀ a b c, (a, b) ∈ s.2 → (a, c) ∈ s.2 → b = c
  one2 : ∀ a b c, (a, c) ∈ s.2 → (b, c) ∈ s.2 → a = b
  apart : ∀ a b o, (a, b) ∈ s.2 → (a, o) ∉ s.1
theorem Inv.zero (L : List Tk) : Inv L 0 ([], []) where
  wait := fun X a o B h => by simp at h
  pair := fun a b h => by cases h
  opens := fun j t h => by omega
  closes := fun j t h => by omega
  one1 := fun a b c h => by cases h
  one2 := fun a b c h => by cases h
  apart := fun a b o h => by cases h
theorem Inv.step {L : List Tk} {k : Nat} {t : Tk} {s u : St} (h : Inv L k s) (hs : stAt L k = some s) (ht : L[k]? = some t) (hu : step1 t k s = some u) : Inv L (k + 1) u := by
  have hS : stAt L (k + 1) = some u := by rw [stAt_succ ht, hs]; exact hu
  have wlt : ∀ a o, (a, o) ∈ s.1 → a < k := fun a o hm => by
    obtain ⟨X, B, e⟩ := List.append_of_mem hm
    exact (h.wait X a o B e).1
  unfold step1 at hu
  by_cases hO : isO t = true
  · rw [if_pos hO] at hu
    cases hu
    refine ⟨fun X a o B e => ?_, fun a b hm => ?_, fun j t' hj hL hO' => ?_, fun j t' hj hL hC' => ?_, h.one1, h.one2, fun a b o hm hn => ?_⟩
    · cases X with
      | nil =>
        simp only [List.nil_append, List.cons.injEq, Prod.mk.injEq] at e
        obtain ⟨⟨rfl, rfl⟩, rfl⟩ := e
        refine ⟨Nat.lt_succ_self _, ht, hO, ⟨s.2, hs⟩, fun j h1 h2 => ?_⟩
        obtain rfl : j = k + 1 := by omega
        exact ⟨[], s.2, hS⟩
      | cons x X =>
        simp only [List.cons_append, List.cons.injEq] at e
        obtain ⟨rfl, e⟩ := e
        obtain ⟨h1, h2, h3, h4, h5⟩ := h.wait X a o B e
        refine ⟨by omega, h2, h3, h4, fun j j1 j2 => ?_⟩
        rcases Nat.lt_or_ge k j with hj | hj
        · obtain rfl : j = k + 1 := by omega
          exact ⟨(k, t) :: X, s.2, by rw [hS, e]; rfl⟩
        · exact h5 j j1 hj
    · obtain ⟨h1, h2, r⟩ := h.pair a b hm
      exact ⟨h1, by omega, r⟩
    · rcases Nat.lt_or_ge j k with h1 | h1
      · rcases h.opens j t' h1 hL hO' with ⟨o, ho⟩ | ho
        · exact .inl ⟨o, List.mem_cons_of_mem _ ho⟩
        · exact .inr ho
      · obtain rfl : j = k := by omega
        exact .inl ⟨t, List.mem_cons_self⟩
    · rcases Nat.lt_or_ge j k with h1 | h1
      · exact h.closes j t' h1 hL hC'
      · obtain rfl : j = k := by omega
        rw [ht] at hL; cases hL
        rw [isO_isC hO] at hC'; cases hC'
    · rcases List.mem_cons.1 hn with e | e
      · have := (h.pair a b hm).2.1
        have := (h.pair a b hm).1
        cases e; omega
      · exact h.apart a b o hm e
  · rw [if_neg hO] at hu
    by_cases hC : isC t = true
    · rw [if_pos hC] at hu
      cases hst : s.1 with
      | nil => rw [hst] at hu; cases hu
      | cons x st =>
        rw [hst] at hu
        by_cases hf : fit x.2 t = true
        · simp only [hf, if_true] at hu
          cases hu
          obtain ⟨x1, x2⟩ := x
          dsimp only at hf hS ⊢
          obtain ⟨w1, w2, w3, ⟨p, w4⟩, w5⟩ := h.wait [] x1 x2 st hst
          refine ⟨fun X a o B e => ?_, fun a b hm => ?_, fun j t' hj hL hO' => ?_, fun j t' hj hL hC' => ?_, fun a b c hm hn => ?_, fun a b c hm hn => ?_, fun a b o hm hn => ?_⟩
          · dsimp only at e
            obtain ⟨h1, h2, h3, h4, h5⟩ := h.wait ((x1, x2) :: X) a o B (by rw [hst, e]; rfl)
            refine ⟨by omega, h2, h3, h4, fun j j1 j2 => ?_⟩
            rcases Nat.lt_or_ge k j with hj | hj
            · obtain rfl : j = k + 1 := by omega
              exact ⟨X, _, by rw [hS, e]⟩
            · exact h5 j j1 hj
          · rcases List.mem_cons.1 hm with e | e
            · cases e
              exact ⟨w1, Nat.lt_succ_self _, x2, t, st, w2, w3, ht, hC, ⟨p, w4⟩, ⟨_, hS⟩, w5⟩
            · obtain ⟨h1, h2, r⟩ := h.pair a b e
              exact ⟨h1, by omega, r⟩
          · rcases Nat.lt_or_ge j k with h1 | h1
            · rcases h.opens j t' h1 hL hO' with ⟨o, ho⟩ | ⟨b, ho⟩
              · rw [hst] at ho
                rcases List.mem_cons.1 ho with e | e
                · cases e; exact .inr ⟨k, List.mem_cons_self⟩
                · exact .inl ⟨o, e⟩
              · exact .inr ⟨b, List.mem_cons_of_mem _ ho⟩
            · obtain rfl : j = k := by omega
              rw [ht] at hL; cases hL
              exact absurd hO' hO
          · rcases Nat.lt_or_ge j k with h1 | h1
            · obtain ⟨a, ha⟩ := h.closes j t' h1 hL hC'
              exact ⟨a, List.mem_cons_of_mem _ ha⟩
            · obtain rfl : j = k := by omega
              exact ⟨x1, List.mem_cons_self⟩
          · rcases List.mem_cons.1 hm with e | e <;> rcases List.mem_cons.1 hn with e' | e'
            · cases e; cases e'; rfl
            · cases e; exact absurd (by rw [hst]; exact List.mem_cons_self) (h.apart x1 c x2 e')
            · cases e'; exact absurd (by rw [hst]; exact List.mem_cons_self) (h.apart x1 b x2 e)
            · exact h.one1 a b c e e'
          · rcases List.mem_cons.1 hm with e | e <;> rcases List.mem_cons.1 hn with e' | e'
            · cases e; cases e'; rfl
            · cases e; have := (h.pair b k e').2.1; omega
            · cases e'; have := (h.pair a k e).2.1; omega
            · exact h.one2 a b c e e'
          · rcases List.mem_cons.1 hm with e | e
            · cases e
              obtain ⟨X, B, e2⟩ := List.append_of_mem hn
              obtain ⟨_, _, _, ⟨p2, q2⟩, q5⟩ := h.wait ((x1, x2) :: X) x1 o B (by rw [hst]; dsimp only at e2; rw [e2]; rfl)
              rw [w4] at q2
              have e3 := congrArg (fun z => z.map (fun s => s.1.length)) q2
              simp at e3
              dsimp only at e2
              rw [e2] at e3
              simp at e3
              omega
            · exact h.apart a b o e (by rw [hst]; exact List.mem_cons_of_mem _ hn)
        · simp only [hf] at hu
          cases hu
    · rw [if_neg hC] at hu
      cases hu
      refine ⟨fun X a o B e => ?_, fun a b hm => ?_, fun j t' hj hL hO' => ?_, fun j t' hj hL hC' => ?_, h.one1, h.one2, h.apart⟩
      · obtain ⟨h1, h2, h3, h4, h5⟩ := h.wait X a o B e
        refine ⟨by omega, h2, h3, h4, fun j j1 j2 => ?_⟩
        rcases Nat.lt_or_ge k j with hj | hj
        · obtain rfl : j = k + 1 := by omega
          exact ⟨X, _, by rw [hS, ← e]⟩
        · exact h5 j j1 hj
      · obtain ⟨h1, h2, r⟩ := h.pair a b hm
        exact ⟨h1, by omega, r⟩
      · rcases Nat.lt_or_ge j k with h1 | h1
        · exact h.opens j t' h1 hL hO'
        · obtain rfl : j = k := by omega
          rw [ht] at hL; cases hL
          exact absurd hO' hO
      · rcases Nat.lt_or_ge j k with h1 | h1
        · exact h.closes j t' h1 hL hC'
        · obtain rfl : j = k := by omega
          rw [ht] at hL; cases hL
          exact absurd hC' hC
theorem inv_at (L : List Tk) : ∀ (k : Nat) (s : St), k ≤ L.length → stAt L k = some s → Inv L k s
  | 0, s, _, h => by rw [stAt_zero] at h; cases h; exact Inv.zero L
  | k + 1, u, hk, h => by
    obtain ⟨t, ht⟩ : ∃ t, L[k]? = some t := ⟨_, List.getElem?_eq_getElem (by omega)⟩
    rw [stAt_succ ht] at h
    cases hs : stAt L k with
    | none => rw [hs] at h; cases h
    | some s => rw [hs] at h; exact (inv_at L k s (by omega) hs).step hs ht h
end Go.Proofs.YthbiflmmlcmncaaDoor.Ti

/- Signs and brackets: is a token one. -/
namespace Go.Proofs.YthbiflmmlcmncaaDoor.Ti
open Go Go.RowKit Go.Shelf
attribute [local go_sem] Oper.semAt_some

/-- A token as a value. -/
def tv (t : Tk) : Value := .agg #[.int .i64 t.kind, .string (bs t.text), .string (bs t.glyph)]
def isSgn (t : Tk) (X : List UInt8) : Bool := decide (t.kind = 8) && decide (t.glyph = X)
theorem isO_eq (t : Tk) : isO t = (isSgn t [40] || isSgn t [123]) := by
  unfold isO isSgn
  cases decide (t.kind = 8) <;> simp
theorem isC_eq (t : Tk) : isC t = (isSgn t [41] || isSgn t [125]) := by
  unfold isC isSgn
  cases decide (t.kind = 8) <;> simp
theorem bs_eq (a b : List UInt8) : ((bs a).toList == (bs b).toList) = decide (a = b) := by
  rw [ByteArray.toList_eq, ByteArray.toList_eq, bs_list, bs_list]
  by_cases h : a = b <;> simp [h]

set_option maxHeartbeats 1000000 in
theorem bare_c (k : Int) (s g : ByteArray) (w : World) :
    Calls Tryd.prog 33 #[.agg #[.int .i64 k, .string s, .string g]] w fun e W' => e = .returned (.agg #[.int .i64 k, .string ⟨#[]⟩, .string g]) ∧ Below w.heap.size w W' := by
  go_enter Tryd.func33, Tryd.ntmps33
  go_wp2
  refine bodyPost_ret (v := .agg #[.int .i64 k, .string ⟨#[]⟩, .string g]) (by simp [results, Tryd.f33, go_sem]) rfl ⟨rfl, ((Below.refl _ w).alloc (Nat.le_refl _) _).alloc (by simp) _⟩

set_option maxHeartbeats 1000000 in
theorem sign_c (g : ByteArray) (w : World) :
    Calls Tryd.prog 34 #[.string g] w fun e W' => e = .returned (.agg #[.int .i64 8, .string ⟨#[]⟩, .string g]) ∧ Below w.heap.size w W' := by
  go_enter Tryd.func34, Tryd.ntmps34
  go_wp2
  refine bodyPost_ret (v := .agg #[.int .i64 8, .string ⟨#[]⟩, .string g]) (by simp [results, Tryd.f34, go_sem]) rfl ⟨rfl, (Below.refl _ w).alloc (Nat.le_refl _) _⟩

set_option maxHeartbeats 2000000 in
/-- IsSign(x, glyph). -/
theorem isSign_c (t : Tk) (X : List UInt8) (w : World) :
    Calls Tryd.prog 16 #[tv t, .string (bs X)] w fun e W' => e = .returned (.bool (isSgn t X)) ∧ Below w.heap.size w W' := by
  have hg := bs_eq t.glyph X
  obtain ⟨k, hk⟩ : ∃ k, k = t.kind := ⟨_, rfl⟩
  obtain ⟨s, hs⟩ : ∃ s, s = bs t.text := ⟨_, rfl⟩
  obtain ⟨g, hgd⟩ : ∃ g, g = bs t.glyph := ⟨_, rfl⟩
  obtain ⟨x, hx⟩ : ∃ x, x = bs X := ⟨_, rfl⟩
  have hI : isSgn t X = (decide (k = 8) && decide (t.glyph = X)) := by rw [hk]; rfl
  unfold tv
  rw [hI, ← hk, ← hs, ← hgd, ← hx]
  rw [← hgd, ← hx] at hg
  obtain ⟨d, hd⟩ : ∃ d, d = decide (t.glyph = X) := ⟨_, rfl⟩
  rw [← hd] at hg ⊢
  clear hk hs hgd hx hI hd
  have hB : Below w.heap.size w (w.alloc (.cells #[.int .i64 k, .string s, .string g] 31)) := (Below.refl _ w).alloc (Nat.le_refl _) _
  by_cases h8 : k = 8
  · subst h8
    cases d
    all_goals
      go_enter Tryd.func16, Tryd.ntmps16
      go_wp2_with fail
      refine (bare_c _ _ _ _).mono ?_
      rintro e w1 ⟨rfl, hb1⟩
      go_wp2_with fail
      refine (sign_c _ _).mono ?_
      rintro e w2 ⟨rfl, hb2⟩
      go_wp2_with fail
      go_ret
      exact ⟨rfl, (hB.trans (hb1.mono hB.size)).trans (hb2.mono (Nat.le_trans hB.size hb1.size))⟩
  · have h9 : (k == 8) = false := by simpa using h8
    go_enter Tryd.func16, Tryd.ntmps16
    go_wp2_with fail
    refine (bare_c _ _ _ _).mono ?_
    rintro e w1 ⟨rfl, hb1⟩
    go_wp2_with fail
    refine (sign_c _ _).mono ?_
    rintro e w2 ⟨rfl, hb2⟩
    go_wp2_with fail
    go_ret
    exact ⟨by simp [h8], (hB.trans (hb1.mono hB.size)).trans (hb2.mono (Nat.le_trans hB.size hb1.size))⟩

set_option maxHeartbeats 2000000 in
/-- The plain IsSign. -/
theorem risSign_c (t : Tk) (X : List UInt8) (w : World) :
    Calls Tryd.prog 17 #[tv t, .string (bs X)] w fun e W' => e = .returned (.bool (isSgn t X)) ∧ Below w.heap.size w W' := by
  have hg := bs_eq t.glyph X
  obtain ⟨k, hk⟩ : ∃ k, k = t.kind := ⟨_, rfl⟩
  obtain ⟨s, hs⟩ : ∃ s, s = bs t.text := ⟨_, rfl⟩
  obtain ⟨g, hgd⟩ : ∃ g, g = bs t.glyph := ⟨_, rfl⟩
  obtain ⟨x, hx⟩ : ∃ x, x = bs X := ⟨_, rfl⟩
  have hI : isSgn t X = (decide (k = 8) && decide (t.glyph = X)) := by rw [hk]; rfl
  unfold tv
  rw [hI, ← hk, ← hs, ← hgd, ← hx]
  rw [← hgd, ← hx] at hg
  obtain ⟨d, hd⟩ : ∃ d, d = decide (t.glyph = X) := ⟨_, rfl⟩
  rw [← hd] at hg ⊢
  clear hk hs hgd hx hI hd
  have hB : Below w.heap.size w (w.alloc (.cells #[.int .i64 k, .string s, .string g] 31)) := (Below.refl _ w).alloc (Nat.le_refl _) _
  by_cases h8 : k = 8
  · subst h8
    cases d
    all_goals
      go_enter Tryd.func17, Tryd.ntmps17
      go_wp2
      go_ret
      exact ⟨rfl, hB⟩
  · have h9 : (k == 8) = false := by simpa using h8
    go_enter Tryd.func17, Tryd.ntmps17
    go_wp2
    go_ret
    exact ⟨by simp [h8], hB⟩

set_option maxHeartbeats 2000000 in
theorem opens_c (t : Tk) (w : World) :
    Calls Tryd.prog 29 #[tv t] w fun e W' => e = .returned (.bool (isO t)) ∧ Below w.heap.size w W' := by
  have h1 := risSign_c t [40]
  have h2 := risSign_c t [123]
  rw [isO_eq]
  unfold tv at h1 h2 ⊢
  obtain ⟨k, hk⟩ : ∃ k, k = t.kind := ⟨_, rfl⟩
  obtain ⟨s, hs⟩ : ∃ s, s = bs t.text := ⟨_, rfl⟩
  obtain ⟨g, hgd⟩ : ∃ g, g = bs t.glyph := ⟨_, rfl⟩
  rw [← hk, ← hs, ← hgd] at h1 h2 ⊢
  obtain ⟨p, hp⟩ : ∃ p, p = isSgn t [40] := ⟨_, rfl⟩
  obtain ⟨q, hq⟩ : ∃ q, q = isSgn t [123] := ⟨_, rfl⟩
  rw [← hp, ← hq]
  rw [← hp] at h1
  rw [← hq] at h2
  change ∀ w, Calls Tryd.prog _ #[_, .string ⟨#[40]⟩] w _ at h1
  change ∀ w, Calls Tryd.prog _ #[_, .string ⟨#[123]⟩] w _ at h2
  have H1 := Lib.hid h1
  have H2 := Lib.hid h2
  clear h1 h2 hk hs hgd hp hq
  have hB : Below w.heap.size w (w.alloc (.cells #[.int .i64 k, .string s, .string g] 31)) := (Below.refl _ w).alloc (Nat.le_refl _) _
  obtain ⟨W0, hW0⟩ : ∃ W0, W0 = w.alloc (.cells #[.int .i64 k, .string s, .string g] 31) := ⟨_, rfl⟩
  have r0 : Row W0 w.heap.size 31 #[.int .i64 k, .string s, .string g] := by rw [hW0]; exact Row.new _ _ _
  rw [← hW0] at hB
  cases p
  · go_enter Tryd.func29, Tryd.ntmps29
    go_wp2_with fail
    rw [← hW0]
    clear hW0
    refine (H1.out _).mono ?_
    rintro e w1 ⟨rfl, hb1⟩
    obtain ⟨c0, c1, c2, _⟩ := Rs.tok_cells (r0.below hb1 r0.lt)
    go_wp2_with fail
    refine (H2.out _).mono ?_
    rintro e w2 ⟨rfl, hb2⟩
    go_wp2_with fail
    go_ret
    exact ⟨by simp, (hB.trans (hb1.mono hB.size)).trans (hb2.mono (Nat.le_trans hB.size hb1.size))⟩
  · go_enter Tryd.func29, Tryd.ntmps29
    go_wp2_with fail
    rw [← hW0]
    clear hW0
    refine (H1.out _).mono ?_
    rintro e w1 ⟨rfl, hb1⟩
    go_wp2_with fail
    go_ret
    exact ⟨by simp, hB.trans (hb1.mono hB.size)⟩

set_option maxHeartbeats 2000000 in
theorem closes_c (t : Tk) (w : World) :
    Calls Tryd.prog 30 #[tv t] w fun e W' => e = .returned (.bool (isC t)) ∧ Below w.heap.size w W' := by
  have h1 := risSign_c t [41]
  have h2 := risSign_c t [125]
  rw [isC_eq]
  unfold tv at h1 h2 ⊢
  obtain ⟨k, hk⟩ : ∃ k, k = t.kind := ⟨_, rfl⟩
  obtain ⟨s, hs⟩ : ∃ s, s = bs t.text := ⟨_, rfl⟩
  obtain ⟨g, hgd⟩ : ∃ g, g = bs t.glyph := ⟨_, rfl⟩
  rw [← hk, ← hs, ← hgd] at h1 h2 ⊢
  obtain ⟨p, hp⟩ : ∃ p, p = isSgn t [41] := ⟨_, rfl⟩
  obtain ⟨q, hq⟩ : ∃ q, q = isSgn t [125] := ⟨_, rfl⟩
  rw [← hp, ← hq]
  rw [← hp] at h1
  rw [← hq] at h2
  change ∀ w, Calls Tryd.prog _ #[_, .string ⟨#[41]⟩] w _ at h1
  change ∀ w, Calls Tryd.prog _ #[_, .string ⟨#[125]⟩] w _ at h2
  have H1 := Lib.hid h1
  have H2 := Lib.hid h2
  clear h1 h2 hk hs hgd hp hq
  have hB : Below w.heap.size w (w.alloc (.cells #[.int .i64 k, .string s, .string g] 31)) := (Below.refl _ w).alloc (Nat.le_refl _) _
  obtain ⟨W0, hW0⟩ : ∃ W0, W0 = w.alloc (.cells #[.int .i64 k, .string s, .string g] 31) := ⟨_, rfl⟩
  have r0 : Row W0 w.heap.size 31 #[.int .i64 k, .string s, .string g] := by rw [hW0]; exact Row.new _ _ _
  rw [← hW0] at hB
  cases p
  · go_enter Tryd.func30, Tryd.ntmps30
    go_wp2_with fail
    rw [← hW0]
    clear hW0
    refine (H1.out _).mono ?_
    rintro e w1 ⟨rfl, hb1⟩
    obtain ⟨c0, c1, c2, _⟩ := Rs.tok_cells (r0.below hb1 r0.lt)
    go_wp2_with fail
    refine (H2.out _).mono ?_
    rintro e w2 ⟨rfl, hb2⟩
    go_wp2_with fail
    go_ret
    exact ⟨by simp, (hB.trans (hb1.mono hB.size)).trans (hb2.mono (Nat.le_trans hB.size hb1.size))⟩
  · go_enter Tryd.func30, Tryd.ntmps30
    go_wp2_with fail
    rw [← hW0]
    clear hW0
    refine (H1.out _).mono ?_
    rintro e w1 ⟨rfl, hb1⟩
    go_wp2_with fail
    go_ret
    exact ⟨by simp, hB.trans (hb1.mono hB.size)⟩
end Go.Proofs.YthbiflmmlcmncaaDoor.Ti

/- The plain answers: do two brackets belong to each other. -/
namespace Go.Proofs.YthbiflmmlcmncaaDoor.Ti
open Go Go.RowKit Go.Shelf
attribute [local go_sem] Oper.semAt_some

theorem fit_eq {a b : Tk} (ha : isO a = true) (hb : isC b = true) : fit a b = ((isSgn a [40] && isSgn b [41]) || (isSgn a [123] && isSgn b [125])) := by
  unfold isO at ha
  unfold isC at hb
  unfold fit isSgn
  simp only [Bool.and_eq_true] at ha hb
  rw [ha.1, hb.1]
  simp

set_option maxHeartbeats 4000000 in
theorem partners_r (a b : Tk) (w : World) :
    Calls Tryd.prog 31 #[tv a, tv b] w fun e W' => e = .returned (.bool ((isSgn a [40] && isSgn b [41]) || (isSgn a [123] && isSgn b [125]))) ∧ Below w.heap.size w W' := by
  have h1 := risSign_c a [40]
  have h2 := risSign_c b [41]
  have h3 := risSign_c a [123]
  have h4 := risSign_c b [125]
  unfold tv at h1 h2 h3 h4 ⊢
  obtain ⟨k, hk⟩ : ∃ k, k = a.kind := ⟨_, rfl⟩
  obtain ⟨s, hs⟩ : ∃ s, s = bs a.text := ⟨_, rfl⟩
  obtain ⟨g, hgd⟩ : ∃ g, g = bs a.glyph := ⟨_, rfl⟩
  obtain ⟨k', hk'⟩ : ∃ k, k = b.kind := ⟨_, rfl⟩
  obtain ⟨s', hs'⟩ : ∃ s, s = bs b.text := ⟨_, rfl⟩
  obtain ⟨g', hgd'⟩ : ∃ g, g = bs b.glyph := ⟨_, rfl⟩
  rw [← hk, ← hs, ← hgd] at h1 h3 ⊢
  rw [← hk', ← hs', ← hgd'] at h2 h4 ⊢
  obtain ⟨p, hp⟩ : ∃ p, p = isSgn a [40] := ⟨_, rfl⟩
  obtain ⟨q, hq⟩ : ∃ q, q = isSgn b [41] := ⟨_, rfl⟩
  obtain ⟨r, hr⟩ : ∃ q, q = isSgn a [123] := ⟨_, rfl⟩
  obtain ⟨u, hu⟩ : ∃ q, q = isSgn b [125] := ⟨_, rfl⟩
  rw [← hp, ← hq, ← hr, ← hu]
  rw [← hp] at h1
  rw [← hq] at h2
  rw [← hr] at h3
  rw [← hu] at h4
  change ∀ w, Calls Tryd.prog _ #[_, .string ⟨#[40]⟩] w _ at h1
  change ∀ w, Calls Tryd.prog _ #[_, .string ⟨#[41]⟩] w _ at h2
  change ∀ w, Calls Tryd.prog _ #[_, .string ⟨#[123]⟩] w _ at h3
  change ∀ w, Calls Tryd.prog _ #[_, .string ⟨#[125]⟩] w _ at h4
  obtain ⟨W0, hW0⟩ : ∃ W0, W0 = (w.alloc (.cells #[.int .i64 k, .string s, .string g] 31)).alloc (.cells #[.int .i64 k', .string s', .string g'] 31) := ⟨_, rfl⟩
  have r0 : Row W0 w.heap.size 31 #[.int .i64 k, .string s, .string g] := by rw [hW0]; exact (Row.new _ _ _).alloc _
  have r1 : Row W0 (w.heap.size + 1) 31 #[.int .i64 k', .string s', .string g'] := by rw [hW0]; exact Row.at _ _ _ _ (by simp)
  have hB : Below w.heap.size w W0 := by rw [hW0]; exact ((Below.refl _ w).alloc (Nat.le_refl _) _).alloc (by simp) _
  have HK : Hid (∀ W, Below W0.heap.size W0 W → (W.cell? ⟨w.heap.size, 0, none⟩ = some (.int .i64 k) ∧ W.cell? ⟨w.heap.size, 1, none⟩ = some (.string s) ∧ W.cell? ⟨w.heap.size, 2, none⟩ = some (.string g)) ∧ W.cell? ⟨w.heap.size + 1, 0, none⟩ = some (.int .i64 k') ∧ W.cell? ⟨w.heap.size + 1, 1, none⟩ = some (.string s') ∧ W.cell? ⟨w.heap.size + 1, 2, none⟩ = some (.string g')) := Lib.hid (fun W hb => by
    obtain ⟨a0, a1, a2, _⟩ := Rs.tok_cells (r0.below hb r0.lt)
    obtain ⟨b0, b1, b2, _⟩ := Rs.tok_cells (r1.below hb r1.lt)
    exact ⟨⟨a0, a1, a2⟩, b0, b1, b2⟩)
  have H1 := Lib.hid h1
  have H2 := Lib.hid h2
  have H3 := Lib.hid h3
  have H4 := Lib.hid h4
  have HB := Lib.hid hB
  have hB0 := Below.refl W0.heap.size W0
  clear h1 h2 h3 h4 hk hs hgd hk' hs' hgd' hp hq hr hu hB r0 r1
  have HB0 := Lib.hid hB0
  clear hB0
  cases p
  · cases q
    · cases r
      · cases u
        · go_enter Tryd.func31, Tryd.ntmps31
          go_wp2_with fail
          rw [← hW0]
          clear hW0
          refine (H1.out _).mono ?_
          rintro e w1 ⟨rfl, hb⟩
          have HB1 := Lib.hid (HB0.out.trans (hb.mono HB0.out.size))
          obtain ⟨⟨a0, a1, a2⟩, b0, b1, b2⟩ := HK.out w1 HB1.out
          clear hb
          go_wp2_with fail
          refine (H3.out _).mono ?_
          rintro e w2 ⟨rfl, hb⟩
          have HB2 := Lib.hid (HB1.out.trans (hb.mono HB1.out.size))
          obtain ⟨⟨a0, a1, a2⟩, b0, b1, b2⟩ := HK.out w2 HB2.out
          clear hb
          go_wp2_with fail
          go_ret
          exact ⟨rfl, HB.out.trans (HB2.out.mono HB.out.size)⟩
        · go_enter Tryd.func31, Tryd.ntmps31
          go_wp2_with fail
          rw [← hW0]
          clear hW0
          refine (H1.out _).mono ?_
          rintro e w1 ⟨rfl, hb⟩
          have HB1 := Lib.hid (HB0.out.trans (hb.mono HB0.out.size))
          obtain ⟨⟨a0, a1, a2⟩, b0, b1, b2⟩ := HK.out w1 HB1.out
          clear hb
          go_wp2_with fail
          refine (H3.out _).mono ?_
          rintro e w2 ⟨rfl, hb⟩
          have HB2 := Lib.hid (HB1.out.trans (hb.mono HB1.out.size))
          obtain ⟨⟨a0, a1, a2⟩, b0, b1, b2⟩ := HK.out w2 HB2.out
          clear hb
          go_wp2_with fail
          go_ret
          exact ⟨rfl, HB.out.trans (HB2.out.mono HB.out.size)⟩
      · cases u
        · go_enter Tryd.func31, Tryd.ntmps31
          go_wp2_with fail
          rw [← hW0]
          clear hW0
          refine (H1.out _).mono ?_
          rintro e w1 ⟨rfl, hb⟩
          have HB1 := Lib.hid (HB0.out.trans (hb.mono HB0.out.size))
          obtain ⟨⟨a0, a1, a2⟩, b0, b1, b2⟩ := HK.out w1 HB1.out
          clear hb
          go_wp2_with fail
          refine (H3.out _).mono ?_
          rintro e w2 ⟨rfl, hb⟩
          have HB2 := Lib.hid (HB1.out.trans (hb.mono HB1.out.size))
          obtain ⟨⟨a0, a1, a2⟩, b0, b1, b2⟩ := HK.out w2 HB2.out
          clear hb
          go_wp2_with fail
          refine (H4.out _).mono ?_
          rintro e w3 ⟨rfl, hb⟩
          have HB3 := Lib.hid (HB2.out.trans (hb.mono HB2.out.size))
          obtain ⟨⟨a0, a1, a2⟩, b0, b1, b2⟩ := HK.out w3 HB3.out
          clear hb
          go_wp2_with fail
          go_ret
          exact ⟨rfl, HB.out.trans (HB3.out.mono HB.out.size)⟩
        · go_enter Tryd.func31, Tryd.ntmps31
          go_wp2_with fail
          rw [← hW0]
          clear hW0
          refine (H1.out _).mono ?_
          rintro e w1 ⟨rfl, hb⟩
          have HB1 := Lib.hid (HB0.out.trans (hb.mono HB0.out.size))
          obtain ⟨⟨a0, a1, a2⟩, b0, b1, b2⟩ := HK.out w1 HB1.out
          clear hb
          go_wp2_with fail
          refine (H3.out _).mono ?_
          rintro e w2 ⟨rfl, hb⟩
          have HB2 := Lib.hid (HB1.out.trans (hb.mono HB1.out.size))
          obtain ⟨⟨a0, a1, a2⟩, b0, b1, b2⟩ := HK.out w2 HB2.out
          clear hb
          go_wp2_with fail
          refine (H4.out _).mono ?_
          rintro e w3 ⟨rfl, hb⟩
          have HB3 := Lib.hid (HB2.out.trans (hb.mono HB2.out.size))
          obtain ⟨⟨a0, a1, a2⟩, b0, b1, b2⟩ := HK.out w3 HB3.out
          clear hb
          go_wp2_with fail
          go_ret
          exact ⟨rfl, HB.out.trans (HB3.out.mono HB.out.size)⟩
    · cases r
      · cases u
        · go_enter Tryd.func31, Tryd.ntmps31
          go_wp2_with fail
          rw [← hW0]
          clear hW0
          refine (H1.out _).mono ?_
          rintro e w1 ⟨rfl, hb⟩
          have HB1 := Lib.hid (HB0.out.trans (hb.mono HB0.out.size))
          obtain ⟨⟨a0, a1, a2⟩, b0, b1, b2⟩ := HK.out w1 HB1.out
          clear hb
          go_wp2_with fail
          refine (H3.out _).mono ?_
          rintro e w2 ⟨rfl, hb⟩
          have HB2 := Lib.hid (HB1.out.trans (hb.mono HB1.out.size))
          obtain ⟨⟨a0, a1, a2⟩, b0, b1, b2⟩ := HK.out w2 HB2.out
          clear hb
          go_wp2_with fail
          go_ret
          exact ⟨rfl, HB.out.trans (HB2.out.mono HB.out.size)⟩
        · go_enter Tryd.func31, Tryd.ntmps31
          go_wp2_with fail
          rw [← hW0]
          clear hW0
          refine (H1.out _).mono ?_
          rintro e w1 ⟨rfl, hb⟩
          have HB1 := Lib.hid (HB0.out.trans (hb.mono HB0.out.size))
          obtain ⟨⟨a0, a1, a2⟩, b0, b1, b2⟩ := HK.out w1 HB1.out
          clear hb
          go_wp2_with fail
          refine (H3.out _).mono ?_
          rintro e w2 ⟨rfl, hb⟩
          have HB2 := Lib.hid (HB1.out.trans (hb.mono HB1.out.size))
          obtain ⟨⟨a0, a1, a2⟩, b0, b1, b2⟩ := HK.out w2 HB2.out
          clear hb
          go_wp2_with fail
          go_ret
          exact ⟨rfl, HB.out.trans (HB2.out.mono HB.out.size)⟩
      · cases u
        · go_enter Tryd.func31, Tryd.ntmps31
          go_wp2_with fail
          rw [← hW0]
          clear hW0
          refine (H1.out _).mono ?_
          rintro e w1 ⟨rfl, hb⟩
          have HB1 := Lib.hid (HB0.out.trans (hb.mono HB0.out.size))
          obtain ⟨⟨a0, a1, a2⟩, b0, b1, b2⟩ := HK.out w1 HB1.out
          clear hb
          go_wp2_with fail
          refine (H3.out _).mono ?_
          rintro e w2 ⟨rfl, hb⟩
          have HB2 := Lib.hid (HB1.out.trans (hb.mono HB1.out.size))
          obtain ⟨⟨a0, a1, a2⟩, b0, b1, b2⟩ := HK.out w2 HB2.out
          clear hb
          go_wp2_with fail
          refine (H4.out _).mono ?_
          rintro e w3 ⟨rfl, hb⟩
          have HB3 := Lib.hid (HB2.out.trans (hb.mono HB2.out.size))
          obtain ⟨⟨a0, a1, a2⟩, b0, b1, b2⟩ := HK.out w3 HB3.out
          clear hb
          go_wp2_with fail
          go_ret
          exact ⟨rfl, HB.out.trans (HB3.out.mono HB.out.size)⟩
        · go_enter Tryd.func31, Tryd.ntmps31
          go_wp2_with fail
          rw [← hW0]
          clear hW0
          refine (H1.out _).mono ?_
          rintro e w1 ⟨rfl, hb⟩
          have HB1 := Lib.hid (HB0.out.trans (hb.mono HB0.out.size))
          obtain ⟨⟨a0, a1, a2⟩, b0, b1, b2⟩ := HK.out w1 HB1.out
          clear hb
          go_wp2_with fail
          refine (H3.out _).mono ?_
          rintro e w2 ⟨rfl, hb⟩
          have HB2 := Lib.hid (HB1.out.trans (hb.mono HB1.out.size))
          obtain ⟨⟨a0, a1, a2⟩, b0, b1, b2⟩ := HK.out w2 HB2.out
          clear hb
          go_wp2_with fail
          refine (H4.out _).mono ?_
          rintro e w3 ⟨rfl, hb⟩
          have HB3 := Lib.hid (HB2.out.trans (hb.mono HB2.out.size))
          obtain ⟨⟨a0, a1, a2⟩, b0, b1, b2⟩ := HK.out w3 HB3.out
          clear hb
          go_wp2_with fail
          go_ret
          exact ⟨rfl, HB.out.trans (HB3.out.mono HB.out.size)⟩
  · cases q
    · cases r
      · cases u
        · go_enter Tryd.func31, Tryd.ntmps31
          go_wp2_with fail
          rw [← hW0]
          clear hW0
          refine (H1.out _).mono ?_
          rintro e w1 ⟨rfl, hb⟩
          have HB1 := Lib.hid (HB0.out.trans (hb.mono HB0.out.size))
          obtain ⟨⟨a0, a1, a2⟩, b0, b1, b2⟩ := HK.out w1 HB1.out
          clear hb
          go_wp2_with fail
          refine (H2.out _).mono ?_
          rintro e w2 ⟨rfl, hb⟩
          have HB2 := Lib.hid (HB1.out.trans (hb.mono HB1.out.size))
          obtain ⟨⟨a0, a1, a2⟩, b0, b1, b2⟩ := HK.out w2 HB2.out
          clear hb
          go_wp2_with fail
          refine (H3.out _).mono ?_
          rintro e w3 ⟨rfl, hb⟩
          have HB3 := Lib.hid (HB2.out.trans (hb.mono HB2.out.size))
          obtain ⟨⟨a0, a1, a2⟩, b0, b1, b2⟩ := HK.out w3 HB3.out
          clear hb
          go_wp2_with fail
          go_ret
          exact ⟨rfl, HB.out.trans (HB3.out.mono HB.out.size)⟩
        · go_enter Tryd.func31, Tryd.ntmps31
          go_wp2_with fail
          rw [← hW0]
          clear hW0
          refine (H1.out _).mono ?_
          rintro e w1 ⟨rfl, hb⟩
          have HB1 := Lib.hid (HB0.out.trans (hb.mono HB0.out.size))
          obtain ⟨⟨a0, a1, a2⟩, b0, b1, b2⟩ := HK.out w1 HB1.out
          clear hb
          go_wp2_with fail
          refine (H2.out _).mono ?_
          rintro e w2 ⟨rfl, hb⟩
          have HB2 := Lib.hid (HB1.out.trans (hb.mono HB1.out.size))
          obtain ⟨⟨a0, a1, a2⟩, b0, b1, b2⟩ := HK.out w2 HB2.out
          clear hb
          go_wp2_with fail
          refine (H3.out _).mono ?_
          rintro e w3 ⟨rfl, hb⟩
          have HB3 := Lib.hid (HB2.out.trans (hb.mono HB2.out.size))
          obtain ⟨⟨a0, a1, a2⟩, b0, b1, b2⟩ := HK.out w3 HB3.out
          clear hb
          go_wp2_with fail
          go_ret
          exact ⟨rfl, HB.out.trans (HB3.out.mono HB.out.size)⟩
      · cases u
        · go_enter Tryd.func31, Tryd.ntmps31
          go_wp2_with fail
          rw [← hW0]
          clear hW0
          refine (H1.out _).mono ?_
          rintro e w1 ⟨rfl, hb⟩
          have HB1 := Lib.hid (HB0.out.trans (hb.mono HB0.out.size))
          obtain ⟨⟨a0, a1, a2⟩, b0, b1, b2⟩ := HK.out w1 HB1.out
          clear hb
          go_wp2_with fail
          refine (H2.out _).mono ?_
          rintro e w2 ⟨rfl, hb⟩
          have HB2 := Lib.hid (HB1.out.trans (hb.mono HB1.out.size))
          obtain ⟨⟨a0, a1, a2⟩, b0, b1, b2⟩ := HK.out w2 HB2.out
          clear hb
          go_wp2_with fail
          refine (H3.out _).mono ?_
          rintro e w3 ⟨rfl, hb⟩
          have HB3 := Lib.hid (HB2.out.trans (hb.mono HB2.out.size))
          obtain ⟨⟨a0, a1, a2⟩, b0, b1, b2⟩ := HK.out w3 HB3.out
          clear hb
          go_wp2_with fail
          refine (H4.out _).mono ?_
          rintro e w4 ⟨rfl, hb⟩
          have HB4 := Lib.hid (HB3.out.trans (hb.mono HB3.out.size))
          obtain ⟨⟨a0, a1, a2⟩, b0, b1, b2⟩ := HK.out w4 HB4.out
          clear hb
          go_wp2_with fail
          go_ret
          exact ⟨rfl, HB.out.trans (HB4.out.mono HB.out.size)⟩
        · go_enter Tryd.func31, Tryd.ntmps31
          go_wp2_with fail
          rw [← hW0]
          clear hW0
          refine (H1.out _).mono ?_
          rintro e w1 ⟨rfl, hb⟩
          have HB1 := Lib.hid (HB0.out.trans (hb.mono HB0.out.size))
          obtain ⟨⟨a0, a1, a2⟩, b0, b1, b2⟩ := HK.out w1 HB1.out
          clear hb
          go_wp2_with fail
          refine (H2.out _).mono ?_
          rintro e w2 ⟨rfl, hb⟩
          have HB2 := Lib.hid (HB1.out.trans (hb.mono HB1.out.size))
          obtain ⟨⟨a0, a1, a2⟩, b0, b1, b2⟩ := HK.out w2 HB2.out
          clear hb
          go_wp2_with fail
          refine (H3.out _).mono ?_
          rintro e w3 ⟨rfl, hb⟩
          have HB3 := Lib.hid (HB2.out.trans (hb.mono HB2.out.size))
          obtain ⟨⟨a0, a1, a2⟩, b0, b1, b2⟩ := HK.out w3 HB3.out
          clear hb
          go_wp2_with fail
          refine (H4.out _).mono ?_
          rintro e w4 ⟨rfl, hb⟩
          have HB4 := Lib.hid (HB3.out.trans (hb.mono HB3.out.size))
          obtain ⟨⟨a0, a1, a2⟩, b0, b1, b2⟩ := HK.out w4 HB4.out
          clear hb
          go_wp2_with fail
          go_ret
          exact ⟨rfl, HB.out.trans (HB4.out.mono HB.out.size)⟩
    · cases r
      · cases u
        · go_enter Tryd.func31, Tryd.ntmps31
          go_wp2_with fail
          rw [← hW0]
          clear hW0
          refine (H1.out _).mono ?_
          rintro e w1 ⟨rfl, hb⟩
          have HB1 := Lib.hid (HB0.out.trans (hb.mono HB0.out.size))
          obtain ⟨⟨a0, a1, a2⟩, b0, b1, b2⟩ := HK.out w1 HB1.out
          clear hb
          go_wp2_with fail
          refine (H2.out _).mono ?_
          rintro e w2 ⟨rfl, hb⟩
          have HB2 := Lib.hid (HB1.out.trans (hb.mono HB1.out.size))
          obtain ⟨⟨a0, a1, a2⟩, b0, b1, b2⟩ := HK.out w2 HB2.out
          clear hb
          go_wp2_with fail
          go_ret
          exact ⟨rfl, HB.out.trans (HB2.out.mono HB.out.size)⟩
        · go_enter Tryd.func31, Tryd.ntmps31
          go_wp2_with fail
          rw [← hW0]
          clear hW0
          refine (H1.out _).mono ?_
          rintro e w1 ⟨rfl, hb⟩
          have HB1 := Lib.hid (HB0.out.trans (hb.mono HB0.out.size))
          obtain ⟨⟨a0, a1, a2⟩, b0, b1, b2⟩ := HK.out w1 HB1.out
          clear hb
          go_wp2_with fail
          refine (H2.out _).mono ?_
          rintro e w2 ⟨rfl, hb⟩
          have HB2 := Lib.hid (HB1.out.trans (hb.mono HB1.out.size))
          obtain ⟨⟨a0, a1, a2⟩, b0, b1, b2⟩ := HK.out w2 HB2.out
          clear hb
          go_wp2_with fail
          go_ret
          exact ⟨rfl, HB.out.trans (HB2.out.mono HB.out.size)⟩
      · cases u
        · go_enter Tryd.func31, Tryd.ntmps31
          go_wp2_with fail
          rw [← hW0]
          clear hW0
          refine (H1.out _).mono ?_
          rintro e w1 ⟨rfl, hb⟩
          have HB1 := Lib.hid (HB0.out.trans (hb.mono HB0.out.size))
          obtain ⟨⟨a0, a1, a2⟩, b0, b1, b2⟩ := HK.out w1 HB1.out
          clear hb
          go_wp2_with fail
          refine (H2.out _).mono ?_
          rintro e w2 ⟨rfl, hb⟩
          have HB2 := Lib.hid (HB1.out.trans (hb.mono HB1.out.size))
          obtain ⟨⟨a0, a1, a2⟩, b0, b1, b2⟩ := HK.out w2 HB2.out
          clear hb
          go_wp2_with fail
          go_ret
          exact ⟨rfl, HB.out.trans (HB2.out.mono HB.out.size)⟩
        · go_enter Tryd.func31, Tryd.ntmps31
          go_wp2_with fail
          rw [← hW0]
          clear hW0
          refine (H1.out _).mono ?_
          rintro e w1 ⟨rfl, hb⟩
          have HB1 := Lib.hid (HB0.out.trans (hb.mono HB0.out.size))
          obtain ⟨⟨a0, a1, a2⟩, b0, b1, b2⟩ := HK.out w1 HB1.out
          clear hb
          go_wp2_with fail
          refine (H2.out _).mono ?_
          rintro e w2 ⟨rfl, hb⟩
          have HB2 := Lib.hid (HB1.out.trans (hb.mono HB1.out.size))
          obtain ⟨⟨a0, a1, a2⟩, b0, b1, b2⟩ := HK.out w2 HB2.out
          clear hb
          go_wp2_with fail
          go_ret
          exact ⟨rfl, HB.out.trans (HB2.out.mono HB.out.size)⟩
end Go.Proofs.YthbiflmmlcmncaaDoor.Ti

/- Numbers in memory; two lists of them, apart. -/
namespace Go.Proofs.YthbiflmmlcmncaaDoor.Ti
open Go Go.RowKit Go.Shelf
attribute [local go_sem] Oper.semAt_some

/-- Numbers as cells. -/
def nums (L : List Int) : List Value := L.map fun x => Value.int .i64 x
theorem nums_len (L : List Int) : (nums L).length = L.length := by simp [nums]
theorem nums_snoc (L : List Int) (x : Int) : nums (L ++ [x]) = nums L ++ [.int .i64 x] := by simp [nums]
theorem nums_at {L : List Int} {k : Nat} {x : Int} (h : L[k]? = some x) : (nums L)[k]? = some (.int .i64 x) := by simp [nums, h]
theorem nums_set (L : List Int) (k : Nat) (x : Int) : (nums L).set k (.int .i64 x) = nums (L.set k x) := by simp [nums, List.map_set]
/-- v owns the numbers L. -/
abbrev IOwn (W : World) (base : Nat) (v : Value) (L : List Int) : Prop := W.ownsRow base 3 1 v L.length (nums L)
theorem IOwn.nil (W : World) (base : Nat) : IOwn W base (.slice none 0 0) [] := World.ownsRow_nil _ _ _ _

theorem own_kept {base : Nat} {t : TypeId} {sz : Nat} {X Y : World} {v : Value} {k : Nat} {xs : List Value} (h : X.ownsRow base t sz v k xs) (hb : Below X.heap.size X Y) : Y.ownsRow base t sz v k xs := by
  refine ⟨h.1, ?_⟩
  rcases h.2 with hn | ⟨g, cap, cur, e1, e2, e3, e4⟩
  · exact .inl hn
  · exact .inr ⟨g, cap, cur, e1, e2, (hb.block g (Array.getElem?_eq_some_iff.1 e3).1).trans e3, e4⟩
/-- All but the last one. -/
theorem IOwn.pop {W : World} {base g n cap : Nat} {L : List Int} {x : Int} (h : IOwn W base (.slice (some ⟨g, 0, none⟩) n cap) (L ++ [x])) : IOwn W base (.slice (some ⟨g, 0, none⟩) L.length cap) L := by
  rcases h.2 with ⟨h', _⟩ | ⟨g', cap', cur, h', hb, hg, hnc, hcm, hcs, ht⟩
  · cases h'
  · simp only [Value.slice.injEq, Option.some.injEq, Addr.mk.injEq, and_true] at h'
    obtain ⟨rfl, _, rfl⟩ := h'
    rw [List.length_append, List.length_singleton] at hnc ht
    refine ⟨by simp [nums], .inr ⟨g, cap, cur, rfl, hb, hg, by omega, hcm, hcs, ?_⟩⟩
    have e := congrArg (List.take L.length) ht
    rw [List.take_take, Nat.mul_one, Nat.min_eq_left (by omega), nums_snoc, List.take_left' (nums_len L)] at e
    rw [Nat.mul_one]
    exact e

theorem own_form {base : Nat} {t : TypeId} {sz : Nat} {W : World} {v : Value} {k : Nat} {xs : List Value} (h : W.ownsRow base t sz v k xs) : ∃ a c, v = .slice a k c := by
  rcases h.2 with ⟨hv, h0⟩ | ⟨g, cap, cur, e1, _⟩
  · exact ⟨none, 0, by rw [hv, h0]⟩
  · exact ⟨_, _, e1⟩
theorem own_cap {base : Nat} {t : TypeId} {sz n cap g : Nat} {W : World} {xs : List Value} (h : W.ownsRow base t sz (.slice (some ⟨g, 0, none⟩) n cap) n xs) : n ≤ cap ∧ cap ≤ 9223372036854775807 := by
  rcases h.2 with ⟨hv, h0⟩ | ⟨g', cap', cur, e1, _, _, e4, e5, _⟩
  · cases hv
  · cases e1
    exact ⟨e4, by unfold maxLen at e5; omega⟩
/-- Two lists of numbers, apart. -/
structure Two (W : World) (base : Nat) (va vb : Value) (A B : List Int) : Prop where
  a : IOwn W base va A
  b : IOwn W base vb B
  ap : ∀ k, va.ownBlock = some k → vb.ownBlock ≠ some k
theorem Two.below {W W' : World} {base : Nat} {va vb : Value} {A B : List Int} (h : Two W base va vb A B) (hb : Below W.heap.size W W') : Two W' base va vb A B := ⟨own_kept h.a hb, own_kept h.b hb, h.ap⟩
theorem Two.alloc {W : World} {base : Nat} {va vb : Value} {A B : List Int} (h : Two W base va vb A B) (o : Obj) : Two (W.alloc o) base va vb A B := ⟨h.a.alloc o, h.b.alloc o, h.ap⟩
theorem Two.appA {W w1 : World} {base : Nat} {va vb : Value} {A B : List Int} {g cap n : Nat} {x : Int} (h : Two W base va vb A B) (hn : n = A.length)
    (ho : w1.ownsRow base 3 1 (.slice (some ⟨g, 0, none⟩) (n + 1) cap) (n + 1) (nums A ++ [.int .i64 x])) (hg : W.grownBy w1 va.ownBlock) (hat : va.ownBlock = some g ∨ g = W.heap.size) :
    Two w1 base (.slice (some ⟨g, 0, none⟩) (n + 1) cap) vb (A ++ [x]) B := by
  subst hn
  refine ⟨?_, ?_, fun k e => ?_⟩
  · show World.ownsRow _ _ _ _ _ _ _
    rw [List.length_append, List.length_singleton, nums_snoc]
    exact ho
  · refine h.b.kept hg ?_
    cases hvb : vb.ownBlock with
    | none => exact .inl rfl
    | some q => exact .inr (fun e => h.ap q e.symm hvb)
  · simp only [Value.ownBlock, Option.some.injEq] at e
    subst e
    intro e2
    rcases hat with e3 | e3
    · exact h.ap _ e3 e2
    · have := (h.b.lt _ e2).2
      omega
theorem Two.appB {W w1 : World} {base : Nat} {va vb : Value} {A B : List Int} {g cap n : Nat} {x : Int} (h : Two W base va vb A B) (hn : n = B.length)
    (ho : w1.ownsRow base 3 1 (.slice (some ⟨g, 0, none⟩) (n + 1) cap) (n + 1) (nums B ++ [.int .i64 x])) (hg : W.grownBy w1 vb.ownBlock) (hat : vb.ownBlock = some g ∨ g = W.heap.size) :
    Two w1 base va (.slice (some ⟨g, 0, none⟩) (n + 1) cap) A (B ++ [x]) := by
  have h' : Two W base vb va B A := ⟨h.b, h.a, fun k e e2 => h.ap k e2 e⟩
  obtain ⟨p, q, r⟩ := h'.appA hn ho hg hat
  exact ⟨q, p, fun k e e2 => r k e2 e⟩
theorem Two.popB {W : World} {base : Nat} {va : Value} {A B : List Int} {g cap n : Nat} {x : Int} (h : Two W base va (.slice (some ⟨g, 0, none⟩) n cap) A (B ++ [x])) :
    Two W base va (.slice (some ⟨g, 0, none⟩) B.length cap) A B := ⟨h.a, h.b.pop, h.ap⟩
theorem Two.setA {W : World} {base : Nat} {vb : Value} {A B : List Int} {g cap : Nat} (h : Two W base (.slice (some ⟨g, 0, none⟩) A.length cap) vb A B) (j : Nat) (x : Int) :
    Two (W.setCell ⟨g, j, none⟩ (.int .i64 x)) base (.slice (some ⟨g, 0, none⟩) (A.set j x).length cap) vb (A.set j x) B := by
  have hs := h.a.stored j (.int .i64 x)
  refine ⟨?_, h.b.kept hs.2 ?_, fun k e => h.ap k e⟩
  · show World.ownsRow _ _ _ _ _ _ _
    rw [List.length_set, ← nums_set]
    exact hs.1
  · cases hvb : vb.ownBlock with
    | none => exact .inl rfl
    | some q => exact .inr (fun e => h.ap g rfl (by rw [hvb]; exact e))
theorem infoI : ∃ i, Tryd.prog.info? 3 = some i ∧ i.zero = some (.int .i64 0) ∧ i.size = 1 ∧ i.bytes = 8 :=
  info_parts (show (Tryd.prog.info? 3).map (fun i => (i.zero, i.size, i.bytes)) = some (some (.int .i64 0), 1, 8) by kernel_rfl)

/-! ### What the plain Match keeps -/
/-- The greatest depth so far. -/
def dmax (L : List Tk) : Nat → Nat
  | 0 => 0
  | k + 1 => match L[k]? with
    | some t => if isO t then max (dmax L k) (dpt L (k + 1)) else dmax L k
    | none => dmax L k
/-- The answer of Match. -/
def matchA (L : List Tk) : List Int × Nat := match stAt L L.length with
  | some s => if s.1 = [] then (if 20 < dmax L L.length then ([], 61) else (parts L.length s.2, 0)) else ([], 60)
  | none => ([], 60)
theorem matchA_none {L : List Tk} (h : stAt L L.length = none) : matchA L = ([], 60) := by unfold matchA; rw [h]
theorem matchA_wait {L : List Tk} {s : St} (h : stAt L L.length = some s) (h1 : ¬ s.1 = []) : matchA L = ([], 60) := by unfold matchA; rw [h]; simp [h1]
theorem matchA_deep {L : List Tk} {s : St} (h : stAt L L.length = some s) (h1 : s.1 = []) (h2 : 20 < dmax L L.length) : matchA L = ([], 61) := by unfold matchA; rw [h]; simp [h1, h2]
theorem matchA_ok {L : List Tk} {s : St} (h : stAt L L.length = some s) (h1 : s.1 = []) (h2 : ¬ 20 < dmax L L.length) : matchA L = (parts L.length s.2, 0) := by unfold matchA; rw [h]; simp [h1, h2]
theorem part_out {ps : List (Nat × Nat)} {k : Nat} (h : ∀ a b, (a, b) ∈ ps → a ≠ k ∧ b ≠ k) : part ps k = -1 := by
  induction ps with
  | nil => rfl
  | cons p r ih =>
    obtain ⟨a, b⟩ := p
    have h1 := h a b List.mem_cons_self
    simp only [part]
    rw [if_neg (fun e => h1.1 e.symm), if_neg (fun e => h1.2 e.symm)]
    exact ih (fun a b hm => h a b (List.mem_cons_of_mem _ hm))
theorem parts_snoc {n : Nat} {ps : List (Nat × Nat)} (h : part ps n = -1) : parts (n + 1) ps = parts n ps ++ [-1] := by
  simp [parts, List.range_succ, h]
/-- Where those stand that wait, the first one ahead. -/
def stk (st : List (Nat × Tk)) : List Int := (st.map fun x => (x.1 : Int)).reverse
theorem stk_len (st : List (Nat × Tk)) : (stk st).length = st.length := by simp [stk]
theorem stk_cons (x : Nat × Tk) (st : List (Nat × Tk)) : stk (x :: st) = stk st ++ [(x.1 : Int)] := by simp [stk]
theorem dpt_some {L : List Tk} {k : Nat} {s : St} (h : stAt L k = some s) : dpt L k = s.1.length := by unfold dpt; rw [h]
theorem dmax_le {L : List Tk} : ∀ k, (∀ j s, j ≤ k → stAt L j = some s → s.1.length ≤ j) → dmax L k ≤ k
  | 0, _ => Nat.le_refl _
  | k + 1, h => by
    have ih := dmax_le (L := L) k (fun j s hj hs => h j s (by omega) hs)
    unfold dmax
    split
    · split
      · have : dpt L (k + 1) ≤ k + 1 := by
          unfold dpt
          split
          · rename_i s hs; exact h _ _ (Nat.le_refl _) hs
          · omega
        omega
      · omega
    · omega
theorem step1_len {t : Tk} {i : Nat} {s u : St} (h : step1 t i s = some u) : u.1.length ≤ s.1.length + 1 := by
  unfold step1 at h
  split at h
  · cases h; simp
  · split at h
    · split at h
      · cases h
      · rename_i x st e
        split at h
        · cases h; rw [e]; simp; omega
        · cases h
    · cases h; omega
theorem st_len {L : List Tk} : ∀ (k : Nat) (s : St), k ≤ L.length → stAt L k = some s → s.1.length ≤ k
  | 0, s, _, h => by rw [stAt_zero] at h; cases h; simp
  | k + 1, u, hk, h => by
    obtain ⟨t, ht⟩ : ∃ t, L[k]? = some t := ⟨_, List.getElem?_eq_getElem (by omega)⟩
    rw [stAt_succ ht] at h
    cases hs : stAt L k with
    | none => rw [hs] at h; cases h
    | some s =>
      rw [hs] at h
      have := st_len k s (by omega) hs
      have := step1_len h
      omega
end Go.Proofs.YthbiflmmlcmncaaDoor.Ti

/- What Deep, Split and Inside answer. Nothing of the program stands here. -/
namespace Go.Proofs.YthbiflmmlcmncaaDoor.Ti
open Go Go.RowKit

def errA (L : List Tk) : Nat := (matchA L).2
theorem errA_ok {L : List Tk} (h : errA L = 0) : ∃ ps, stAt L L.length = some ([], ps) ∧ ¬ 20 < dmax L L.length ∧ (matchA L).1 = parts L.length ps := by
  unfold errA at h
  cases hs : stAt L L.length with
  | none => rw [matchA_none hs] at h; cases h
  | some s =>
    by_cases h1 : s.1 = []
    · by_cases h2 : 20 < dmax L L.length
      · rw [matchA_deep hs h1 h2] at h; cases h
      · refine ⟨s.2, ?_, h2, by rw [matchA_ok hs h1 h2]⟩
        obtain ⟨s1, s2⟩ := s
        dsimp only at h1
        subst h1
        rfl
    · rw [matchA_wait hs h1] at h; cases h
theorem errA_no {L : List Tk} (h : ¬ errA L = 0) : (matchA L).1 = [] ∧ (errA L = 60 ∨ errA L = 61) := by
  unfold errA at h ⊢
  cases hs : stAt L L.length with
  | none => rw [matchA_none hs]; simp
  | some s =>
    by_cases h1 : s.1 = []
    · by_cases h2 : 20 < dmax L L.length
      · rw [matchA_deep hs h1 h2]; simp
      · rw [matchA_ok hs h1 h2] at h; exact absurd rfl h
    · rw [matchA_wait hs h1]; simp
theorem dpt_step {L : List Tk} {k : Nat} {t : Tk} {u : St} (ht : L[k]? = some t) (hu : stAt L (k + 1) = some u) :
    (isO t = true → dpt L (k + 1) = dpt L k + 1) ∧ (isO t = false → isC t = true → dpt L k = dpt L (k + 1) + 1) ∧ (isO t = false → isC t = false → dpt L (k + 1) = dpt L k) := by
  have h := hu
  rw [stAt_succ ht] at h
  cases hs : stAt L k with
  | none => rw [hs] at h; cases h
  | some s =>
    rw [hs] at h
    change step1 t k s = some u at h
    rw [dpt_some hu, dpt_some hs]
    unfold step1 at h
    refine ⟨fun e => ?_, fun e e2 => ?_, fun e e2 => ?_⟩
    · rw [if_pos e] at h; cases h; rfl
    · rw [if_neg (by simp [e]), if_pos e2] at h
      split at h
      · cases h
      · rename_i x st hst
        split at h
        · cases h; rw [hst]; rfl
        · cases h
    · rw [if_neg (by simp [e]), if_neg (by simp [e2])] at h; cases h; rfl
theorem depT_at {L : List Tk} {k : Nat} {t : Tk} (ht : L[k]? = some t) : depT L k = if isC t then dpt L (k + 1) else dpt L k := by unfold depT; rw [ht]
/-- How deep the first k are. -/
def deps (L : List Tk) (k : Nat) : List Int := (List.range k).map fun j => ((depT L j : Nat) : Int)
theorem deps_len (L : List Tk) (k : Nat) : (deps L k).length = k := by simp [deps]
theorem deps_succ (L : List Tk) (k : Nat) : deps L (k + 1) = deps L k ++ [((depT L k : Nat) : Int)] := by simp [deps, List.range_succ]
theorem deps_at (L : List Tk) {n k : Nat} (h : k < n) : (deps L n)[k]? = some ((depT L k : Nat) : Int) := by simp [deps, h]
def deepA (L : List Tk) : List Int := if errA L = 0 then deps L L.length else []
/-- A part of a list. -/
def cutL (L : List Tk) (a b : Nat) : List Tk := (L.take b).drop a
theorem cutL_len (L : List Tk) {a b : Nat} (h1 : a ≤ b) (h2 : b ≤ L.length) : (cutL L a b).length = b - a := by unfold cutL; rw [List.length_drop, List.length_take]; omega
theorem cutL_at (L : List Tk) {a b j : Nat} (h : a + j < b) : (cutL L a b)[j]? = L[a + j]? := by
  unfold cutL
  rw [List.getElem?_drop, List.getElem?_take, if_pos h]
/-- Is token k a sign that parts? -/
def sep (L : List Tk) (g : List UInt8) (k : Nat) : Bool := match L[k]? with
  | some t => decide (depT L k = 0) && isSgn t g && !isO t && !isC t
  | none => false
theorem sep_at {L : List Tk} {k : Nat} {t : Tk} (g : List UInt8) (ht : L[k]? = some t) : sep L g k = (decide (depT L k = 0) && isSgn t g && !isO t && !isC t) := by unfold sep; rw [ht]
/-- The parts that end among the first k tokens; where the next one begins. -/
def splK (L : List Tk) (g : List UInt8) : Nat → List (List Tk) × Nat
  | 0 => ([], 0)
  | k + 1 => if sep L g k then ((splK L g k).1 ++ [cutL L (splK L g k).2 k], k + 1) else splK L g k
theorem splK_le (L : List Tk) (g : List UInt8) : ∀ k, (splK L g k).2 ≤ k
  | 0 => Nat.le_refl _
  | k + 1 => by
    have := splK_le L g k
    unfold splK
    split
    · exact Nat.le_refl _
    · omega
theorem splK_len (L : List Tk) (g : List UInt8) : ∀ k, (splK L g k).1.length ≤ k
  | 0 => Nat.le_refl _
  | k + 1 => by
    have := splK_len L g k
    unfold splK
    split
    · simp; omega
    · omega
def splitA (L : List Tk) (g : List UInt8) : List (List Tk) := if errA L = 0 then (splK L g L.length).1 ++ [cutL L (splK L g L.length).2 L.length] else []
/-- The partner of a place; none: -1. -/
def prt (L : List Tk) (k : Nat) : Int := ((matchA L).1[k]?).getD (-1)
def insideA (L : List Tk) (at_ : Int) : List Tk × Nat :=
  if errA L = 0 then (if 0 ≤ at_ ∧ at_ < (L.length : Int) ∧ at_ < prt L at_.toNat then (cutL L (at_.toNat + 1) (prt L at_.toNat).toNat, 0) else ([], 60)) else ([], errA L)

/-! ### Partners -/
theorem part_mem {ps : List (Nat × Nat)} {k : Nat} (h : ¬ part ps k = -1) : ∃ a b, (a, b) ∈ ps ∧ ((k = a ∧ part ps k = (b : Int)) ∨ (k = b ∧ part ps k = (a : Int))) := by
  induction ps with
  | nil => exact absurd rfl h
  | cons p r ih =>
    obtain ⟨a, b⟩ := p
    simp only [part] at h ⊢
    by_cases h1 : k = a
    · rw [if_pos h1]
      exact ⟨a, b, List.mem_cons_self, .inl ⟨h1, rfl⟩⟩
    · rw [if_neg h1] at h ⊢
      by_cases h2 : k = b
      · rw [if_pos h2]
        exact ⟨a, b, List.mem_cons_self, .inr ⟨h2, rfl⟩⟩
      · rw [if_neg h2] at h ⊢
        obtain ⟨c, d, hm, hx⟩ := ih h
        exact ⟨c, d, List.mem_cons_of_mem _ hm, hx⟩
theorem part_ne {ps : List (Nat × Nat)} {a b : Nat} (h : (a, b) ∈ ps) : ¬ part ps a = -1 ∧ ¬ part ps b = -1 := by
  induction ps with
  | nil => cases h
  | cons p r ih =>
    obtain ⟨c, d⟩ := p
    simp only [part]
    refine ⟨?_, ?_⟩
    all_goals
      split
      · omega
      · split
        · omega
        · rcases List.mem_cons.1 h with e | e
          · cases e; contradiction
          · first | exact (ih e).1 | exact (ih e).2
theorem Inv.partner {L : List Tk} {k : Nat} {s : St} (h : Inv L k s) {a b : Nat} (hm : (a, b) ∈ s.2) : part s.2 a = (b : Int) ∧ part s.2 b = (a : Int) := by
  obtain ⟨n1, n2⟩ := part_ne hm
  obtain ⟨p1, p2, o, c, B, q1, q2, q3, q4, _⟩ := h.pair a b hm
  refine ⟨?_, ?_⟩
  · obtain ⟨a', b', hm', ⟨e, e2⟩ | ⟨e, e2⟩⟩ := part_mem n1
    · subst e
      rw [e2, h.one1 a b b' hm hm']
    · subst e
      obtain ⟨_, _, o', c', B', _, _, r3, r4, _⟩ := h.pair a' a hm'
      rw [q1] at r3; cases r3
      rw [isO_isC q2] at r4; cases r4
  · obtain ⟨a', b', hm', ⟨e, e2⟩ | ⟨e, e2⟩⟩ := part_mem n2
    · subst e
      obtain ⟨_, _, o', c', B', r1, r2, _⟩ := h.pair b b' hm'
      rw [q3] at r1; cases r1
      rw [isO_isC r2] at q4; cases q4
    · subst e
      rw [e2, h.one2 a a' b hm hm']
/-- What a matched list's partners say of its tokens. -/
theorem Inv.tells {L : List Tk} {ps : List (Nat × Nat)} (h : Inv L L.length ([], ps)) {k : Nat} {t : Tk} (ht : L[k]? = some t) :
    (isO t = true → ∃ b, (k, b) ∈ ps ∧ part ps k = (b : Int) ∧ k < b ∧ b < L.length) ∧ (isC t = true → ∃ a, (a, k) ∈ ps ∧ part ps k = (a : Int) ∧ a < k) ∧ (isO t = false → isC t = false → part ps k = -1) := by
  have hlt : k < L.length := (List.getElem?_eq_some_iff.1 ht).1
  refine ⟨fun e => ?_, fun e => ?_, fun e e2 => ?_⟩
  · rcases h.opens k t hlt ht e with ⟨o, ho⟩ | ⟨b, hb⟩
    · cases ho
    · have := h.pair k b hb
      exact ⟨b, hb, (h.partner hb).1, this.1, this.2.1⟩
  · obtain ⟨a, ha⟩ := h.closes k t hlt ht e
    have := h.pair a k ha
    exact ⟨a, ha, (h.partner ha).2, this.1⟩
  · refine part_out (fun a b hm => ⟨fun e3 => ?_, fun e3 => ?_⟩)
    · subst e3
      obtain ⟨_, _, o, c, B, q1, q2, _⟩ := h.pair a b hm
      rw [ht] at q1; cases q1
      rw [e] at q2; cases q2
    · subst e3
      obtain ⟨_, _, o, c, B, _, _, q3, q4, _⟩ := h.pair a b hm
      rw [ht] at q3; cases q3
      rw [e2] at q4; cases q4
end Go.Proofs.YthbiflmmlcmncaaDoor.Ti

/- Lists of tokens in lists; a part of a list. -/
namespace Go.Proofs.YthbiflmmlcmncaaDoor.Ti
open Go Go.RowKit Go.Shelf
attribute [local go_sem] Oper.semAt_some

theorem infoS : ∃ i, Tryd.prog.info? 22 = some i ∧ i.zero = some (.slice none 0 0) ∧ i.size = 1 ∧ i.bytes = 24 :=
  info_parts (show (Tryd.prog.info? 22).map (fun i => (i.zero, i.size, i.bytes)) = some (some (.slice none 0 0), 1, 24) by kernel_rfl)
theorem own_mono {w : World} {base base' : Nat} {e : TypeId} {size : Nat} {v : Value} {n : Nat} {xs : List Value} (h : w.ownsRow base e size v n xs) (hb : base' ≤ base) : w.ownsRow base' e size v n xs := by
  refine ⟨h.1, ?_⟩
  rcases h.2 with hn | ⟨g, cap, cur, e1, e2, e3⟩
  · exact .inl hn
  · exact .inr ⟨g, cap, cur, e1, Nat.le_trans hb e2, e3⟩
/-- The values VS are the lists PS. -/
structure PartsAt (W : World) (VS : List Value) (PS : List (List Tk)) : Prop where
  len : VS.length = PS.length
  at_ : ∀ (j : Nat) (x : Value) (P : List Tk), VS[j]? = some x → PS[j]? = some P → TL W x P
  one : ∀ x ∈ VS, x.oneCell' = true
theorem PartsAt.nil (W : World) : PartsAt W [] [] := ⟨rfl, fun j x P h => by simp at h, fun x h => by cases h⟩
theorem PartsAt.snoc {W : World} {VS : List Value} {PS : List (List Tk)} (h : PartsAt W VS PS) {x : Value} {P : List Tk} (hx : TL W x P) (h1 : x.oneCell' = true) : PartsAt W (VS ++ [x]) (PS ++ [P]) := by
  refine ⟨by simp [h.len], fun j y Q hy hQ => ?_, fun y hy => ?_⟩
  · rw [List.getElem?_append] at hy hQ
    rw [← h.len] at hQ
    by_cases hj : j < VS.length
    · rw [if_pos hj] at hy hQ
      exact h.at_ j y Q hy hQ
    · rw [if_neg hj] at hy hQ
      have e : j - VS.length = 0 := by
        have := (List.getElem?_eq_some_iff.1 hy).1
        simp at this
        omega
      rw [e] at hy hQ
      cases hy; cases hQ
      exact hx
  · rcases List.mem_append.1 hy with e | e
    · exact h.one y e
    · rw [List.mem_singleton.1 e]; exact h1
theorem PartsAt.below {W W' : World} {VS : List Value} {PS : List (List Tk)} (h : PartsAt W VS PS) (hb : Below W.heap.size W W') : PartsAt W' VS PS :=
  ⟨h.len, fun j x P hx hP => (h.at_ j x P hx hP).below hb, h.one⟩
/-- A part of a slice is a part of the list. -/
theorem TL.sub {W : World} {g o n c : Nat} {L : List Tk} (h : TL W (.slice (some ⟨g, o, none⟩) n c) L) (hn : n = L.length) {a b : Nat} (h1 : a ≤ b) (h2 : b ≤ n) : TL W (.slice (some ⟨g, o + a * 3, none⟩) (b - a) (c - a)) (cutL L a b) := by
  subst hn
  obtain ⟨a0, c0, e1, e2, e3⟩ := h.form
  cases e1
  have hl := cutL_len L h1 h2
  refine ⟨⟨_, _, by rw [hl], by rw [hl]; omega, by omega⟩, fun h0 => ?_⟩
  rw [hl] at h0
  obtain ⟨g', o', c', e4, hg, hc⟩ := h.cells (by omega)
  cases e4
  refine ⟨g, o + a * 3, _, by rw [hl], hg, fun j t hj => ?_⟩
  have hjl : j < b - a := by rw [← hl]; exact (List.getElem?_eq_some_iff.1 hj).1
  rw [cutL_at L (by omega)] at hj
  have := hc (a + j) t hj
  rw [show o + a * 3 + j * 3 = o + (a + j) * 3 by omega]
  exact this
end Go.Proofs.YthbiflmmlcmncaaDoor.Ti

/- Brackets: what is inside, in brackets, one behind the other. Nothing of the program stands here. -/
namespace Go.Proofs.YthbiflmmlcmncaaDoor.Ti
open Go Go.RowKit

def shS (d : Nat) (S : List (Nat × Tk)) : List (Nat × Tk) := S.map fun x => (x.1 + d, x.2)
def shP (d : Nat) (P : List (Nat × Nat)) : List (Nat × Nat) := P.map fun p => (p.1 + d, p.2 + d)
theorem step1_shift {t : Tk} {i : Nat} {S : List (Nat × Tk)} {P : List (Nat × Nat)} {u : St} (d : Nat) (B : List (Nat × Tk)) (Q : List (Nat × Nat)) (h : step1 t i (S, P) = some u) :
    step1 t (i + d) (shS d S ++ B, shP d P ++ Q) = some (shS d u.1 ++ B, shP d u.2 ++ Q) := by
  unfold step1 at h ⊢
  by_cases h1 : isO t = true
  · rw [if_pos h1] at h ⊢
    cases h
    rfl
  · rw [if_neg h1] at h ⊢
    by_cases h2 : isC t = true
    · rw [if_pos h2] at h ⊢
      cases S with
      | nil => cases h
      | cons x st =>
        dsimp only at h
        by_cases h3 : fit x.2 t = true
        · rw [if_pos h3] at h
          cases h
          show (if fit x.2 t = true then _ else none) = _
          rw [if_pos h3]
          rfl
        · rw [if_neg h3] at h; cases h
    · rw [if_neg h2] at h ⊢
      cases h
      rfl
theorem run_shift : ∀ (l : List Tk) (i : Nat) (s u : St) (d : Nat) (B : List (Nat × Tk)) (Q : List (Nat × Nat)), run l i s = some u → run l (i + d) (shS d s.1 ++ B, shP d s.2 ++ Q) = some (shS d u.1 ++ B, shP d u.2 ++ Q)
  | [], i, s, u, d, B, Q, h => by cases h; rfl
  | t :: l, i, s, u, d, B, Q, h => by
    change (step1 t i s).bind (run l (i + 1)) = some u at h
    cases hs : step1 t i s with
    | none => rw [hs] at h; cases h
    | some v =>
      rw [hs] at h
      change run l (i + 1) v = some u at h
      show (step1 t (i + d) (shS d s.1 ++ B, shP d s.2 ++ Q)).bind (run l (i + d + 1)) = _
      rw [step1_shift d B Q hs]
      show run l (i + d + 1) _ = _
      rw [show i + d + 1 = i + 1 + d by omega]
      exact run_shift l (i + 1) v u d B Q h
/-- What stands inside: its own stack and pairs, as long as nothing behind is taken away. -/
theorem run_inner {L : List Tk} {f b : Nat} {B : List (Nat × Tk)} {Q : List (Nat × Nat)} (hb : b ≤ L.length) (h0 : stAt L f = some (B, Q)) (hj : ∀ j, f ≤ j → j ≤ b → ∃ Y q, stAt L j = some (Y ++ B, q)) :
    ∀ k, f + k ≤ b → ∃ S P, stAt (cutL L f b) k = some (S, P) ∧ stAt L (f + k) = some (shS f S ++ B, shP f P ++ Q)
  | 0, _ => ⟨[], [], rfl, by rw [Nat.add_zero, h0]; rfl⟩
  | k + 1, hk => by
    obtain ⟨S, P, h1, h2⟩ := run_inner hb h0 hj k (by omega)
    obtain ⟨t, ht⟩ : ∃ t, L[f + k]? = some t := ⟨_, List.getElem?_eq_getElem (by omega)⟩
    have hc : (cutL L f b)[k]? = some t := by rw [cutL_at L (by omega)]; exact ht
    obtain ⟨Y, q, h3⟩ := hj (f + k + 1) (by omega) (by omega)
    have h4 := h3
    rw [stAt_succ ht, h2] at h4
    change step1 t (f + k) (shS f S ++ B, shP f P ++ Q) = some (Y ++ B, q) at h4
    obtain ⟨u, hu⟩ : ∃ u, step1 t k (S, P) = some u := by
      unfold step1 at h4 ⊢
      by_cases e1 : isO t = true
      · rw [if_pos e1]; exact ⟨_, rfl⟩
      · rw [if_neg e1] at h4 ⊢
        by_cases e2 : isC t = true
        · rw [if_pos e2] at h4 ⊢
          cases S with
          | nil =>
            exfalso
            cases B with
            | nil => cases h4
            | cons x st =>
              change (if fit x.2 t = true then some (st, (x.1, f + k) :: (shP f P ++ Q)) else none) = some (Y ++ x :: st, q) at h4
              split at h4
              · injection h4 with h4
                have := congrArg (fun z => z.1.length) h4
                simp at this
                omega
              · cases h4
          | cons x st =>
            dsimp only
            change (if fit x.2 t = true then some (shS f st ++ B, (x.1 + f, f + k) :: (shP f P ++ Q)) else none) = some (Y ++ B, q) at h4
            split at h4
            · rename_i e3
              rw [if_pos e3]; exact ⟨_, rfl⟩
            · cases h4
        · rw [if_neg e2]; exact ⟨_, rfl⟩
    have h5 := step1_shift f B Q hu
    rw [Nat.add_comm k f] at h5
    refine ⟨u.1, u.2, ?_, ?_⟩
    · rw [stAt_succ hc, h1]; exact hu
    · rw [← Nat.add_assoc, stAt_succ ht, h2]; exact h5
theorem shS_len (d : Nat) (S : List (Nat × Tk)) : (shS d S).length = S.length := by simp [shS]
theorem shS_nil {d : Nat} {S : List (Nat × Tk)} (h : (shS d S).length = 0) : S = [] := List.length_eq_zero_iff.1 (by rw [← shS_len d S]; exact h)

/-! ### The greatest depth -/
theorem dmax_le_iff (L : List Tk) (m : Nat) : ∀ n, dmax L n ≤ m ↔ ∀ k t, k < n → L[k]? = some t → isO t = true → dpt L (k + 1) ≤ m
  | 0 => ⟨fun _ k t h => by omega, fun _ => Nat.zero_le _⟩
  | n + 1 => by
    have ih := dmax_le_iff L m n
    have e : dmax L (n + 1) = match L[n]? with
      | some t => if isO t then max (dmax L n) (dpt L (n + 1)) else dmax L n
      | none => dmax L n := rfl
    rw [e]
    constructor
    · intro h k t hk ht ho
      rcases Nat.lt_or_ge k n with h1 | h1
      · refine ih.1 ?_ k t h1 ht ho
        revert h
        split
        · split
          · intro h; exact (Nat.max_le.1 h).1
          · exact id
        · exact id
      · obtain rfl : k = n := by omega
        rw [ht] at h
        simp only [ho, if_true] at h
        exact (Nat.max_le.1 h).2
    · intro h
      have h1 := ih.2 (fun k t hk => h k t (by omega))
      split
      · rename_i t ht
        split
        · rename_i ho
          exact Nat.max_le.2 ⟨h1, h n t (by omega) ht ho⟩
        · exact h1
      · exact h1
/-- A list all of whose brackets match, none too deep. -/
theorem errA_zero {L : List Tk} {ps : List (Nat × Nat)} (h : stAt L L.length = some ([], ps)) (hd : ∀ k t, k < L.length → L[k]? = some t → isO t = true → dpt L (k + 1) ≤ 20) : errA L = 0 := by
  unfold errA
  rw [matchA_ok h rfl (by have := (dmax_le_iff L 20 L.length).2 hd; omega)]
theorem errA_depth {L : List Tk} (h : errA L = 0) : ∀ k t, k < L.length → L[k]? = some t → isO t = true → dpt L (k + 1) ≤ 20 := by
  obtain ⟨ps, _, h2, _⟩ := errA_ok h
  exact (dmax_le_iff L 20 L.length).1 (by omega)
/-- Inside of a pair all matches. -/
theorem pair_inside {L : List Tk} {ps : List (Nat × Nat)} (hE : errA L = 0) (hs : stAt L L.length = some ([], ps)) {a b : Nat} (hm : (a, b) ∈ ps) : a < b ∧ b < L.length ∧ errA (cutL L (a + 1) b) = 0 := by
  have hI := inv_at L L.length _ (Nat.le_refl _) hs
  obtain ⟨h1, h2, o, c, B, q1, q2, q3, q4, ⟨p, q5⟩, ⟨q, q6⟩, q7⟩ := hI.pair a b hm
  refine ⟨h1, h2, ?_⟩
  obtain ⟨Y, Q, h8⟩ := q7 (a + 1) (by omega) (by omega)
  have hY : Y = [] := by
    have h9 := h8
    rw [stAt_succ q1, q5] at h9
    change step1 o a (B, p) = _ at h9
    unfold step1 at h9
    rw [if_pos q2] at h9
    injection h9 with h9
    have := congrArg (fun z => z.1.length) h9
    rw [List.length_append] at this
    refine List.length_eq_zero_iff.1 ?_
    have h10 : ((a, o) :: B).length = Y.length + ((a, o) :: B).length := this
    omega
  subst hY
  have hin := run_inner (f := a + 1) (b := b) (B := (a, o) :: B) (Q := Q) (by omega) h8 (fun j j1 j2 => q7 j (by omega) j2)
  have hlen : (cutL L (a + 1) b).length = b - (a + 1) := cutL_len L (by omega) (by omega)
  obtain ⟨S, P, r1, r2⟩ := hin (b - (a + 1)) (by omega)
  have hS : S = [] := by
    rw [show a + 1 + (b - (a + 1)) = b by omega] at r2
    rw [stAt_succ q3, r2] at q6
    change step1 c b _ = _ at q6
    unfold step1 at q6
    have hno : ¬ isO c = true := fun e => by rw [isO_isC e] at q4; cases q4
    rw [if_neg hno, if_pos q4] at q6
    have hlen2 : (shS (a + 1) S ++ (a, o) :: B).length = B.length + 1 := by
      revert q6
      generalize shS (a + 1) S ++ (a, o) :: B = Z
      cases Z with
      | nil => intro q6; cases q6
      | cons x st =>
        intro q6
        dsimp only at q6
        split at q6
        · injection q6 with q6
          have := congrArg (fun z => z.1.length) q6
          simp at this
          simp [this]
        · cases q6
    rw [List.length_append, List.length_cons] at hlen2
    exact shS_nil (d := a + 1) (by omega)
  subst hS
  refine errA_zero (ps := P) (by rw [hlen]; exact r1) (fun k t hk ht ho => ?_)
  rw [hlen] at hk
  rw [cutL_at L (by omega)] at ht
  obtain ⟨S2, P2, r3, r4⟩ := hin (k + 1) (by omega)
  have h9 := errA_depth hE (a + 1 + k) t (by omega) ht ho
  rw [dpt_some r3]
  rw [show a + 1 + k + 1 = a + 1 + (k + 1) by omega, dpt_some r4] at h9
  simp [shS_len] at h9 ⊢
  omega

/-! ### Depths of partners -/
theorem pair_depth {L : List Tk} {ps : List (Nat × Nat)} (hs : stAt L L.length = some ([], ps)) {a b : Nat} (hm : (a, b) ∈ ps) : depT L a = depT L b ∧ ∀ k, a < k → k < b → depT L a < depT L k := by
  have hI := inv_at L L.length _ (Nat.le_refl _) hs
  obtain ⟨h1, h2, o, c, B, q1, q2, q3, q4, ⟨p, q5⟩, ⟨q, q6⟩, q7⟩ := hI.pair a b hm
  have ea : depT L a = B.length := by rw [depT_at q1, isO_isC q2, dpt_some q5]; rfl
  have eb : depT L b = B.length := by rw [depT_at q3, q4, dpt_some q6]; rfl
  refine ⟨by rw [ea, eb], fun k k1 k2 => ?_⟩
  obtain ⟨t, ht⟩ : ∃ t, L[k]? = some t := ⟨_, List.getElem?_eq_getElem (by omega)⟩
  obtain ⟨Y, y, h3⟩ := q7 k k1 (by omega)
  obtain ⟨Z, z, h4⟩ := q7 (k + 1) (by omega) (by omega)
  rw [ea, depT_at ht]
  split
  · rw [dpt_some h4]; simp [List.length_append]; omega
  · rw [dpt_some h3]; simp [List.length_append]; omega
end Go.Proofs.YthbiflmmlcmncaaDoor.Ti
