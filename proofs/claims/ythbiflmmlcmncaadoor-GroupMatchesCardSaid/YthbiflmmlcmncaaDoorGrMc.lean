/- The matcher goes through the tokens: the call (by wip/gen/gr_mc.py). -/
import Derived.Test.YthbiflmmlcmncaaDoorGyF
import Derived.Test.YthbiflmmlcmncaaDoorGyD
namespace Go.Proofs.YthbiflmmlcmncaaDoor.Ti
open Go Go.RowKit Go.Shelf
attribute [local go_sem] Oper.semAt_some

theorem own_block {W : World} {base : Nat} {t : TypeId} {sz n : Nat} {v : Value} {xs : List Value} (h : W.ownsRow base t sz v n xs) {k : Nat} (hk : v.ownBlock = some k) : ∃ cur, W.heap[k]? = some (.cells cur t (0, 0)) := by
  rcases h.2 with ⟨hv, _⟩ | ⟨g, cap, cur, e1, e2, e3, _⟩
  · rw [hv] at hk; cases hk
  · rw [e1] at hk; cases hk; exact ⟨cur, e3⟩
/-- All blocks but those of tokens, and a loop's record, are as they were. -/
def Still (W W' : World) : Prop := ∀ (k : Nat) (o : Obj), W.heap[k]? = some o → (∀ c, o ≠ .cells c 31 (0, 0)) → (∀ r, o ≠ .loop r) → (∀ d, o ≠ .deferred d) → W'.heap[k]? = some o
theorem own_still {W W' : World} {base : Nat} {t : TypeId} {sz n : Nat} {v : Value} {xs : List Value} (h : W.ownsRow base t sz v n xs) (ht : t ≠ 31) (hs : Still W W') : W'.ownsRow base t sz v n xs := by
  refine ⟨h.1, ?_⟩
  rcases h.2 with hn | ⟨g, cap, cur, e1, e2, e3, e4⟩
  · exact .inl hn
  · exact .inr ⟨g, cap, cur, e1, e2, hs g _ e3 (fun c e => ht (by injection e)) (fun r e => by cases e) (fun r e => by cases e), e4⟩
theorem Row.still {W W' : World} {k : Nat} {t : TypeId} {cs : Array Value} (h : Row W k t cs) (ht : t ≠ 31) (hs : Still W W') : Row W' k t cs := hs k _ h (fun c e => ht (by injection e)) (fun r e => by cases e) (fun r e => by cases e)
theorem Mt.still {W W' : World} {base M : Nat} {sv pv : Value} {wl : List Wt} {P : List Int} {mb : Nat} {es : List Nat} (h : Mt W base M sv pv wl P mb es) (hs : Still W W') : Mt W' base M sv pv wl P mb es :=
  ⟨Row.still h.row (by decide) hs, own_still h.st (by decide) hs, own_still h.pr (by decide) hs, hs mb _ h.mp (fun c e => by cases e) (fun r e => by cases e) (fun r e => by cases e), h.all, h.lo, h.ne1, h.ne2, h.ne3⟩
/-- All blocks but those of tokens are as they were. -/
def Kept (W W' : World) : Prop := ∀ (k : Nat) (o : Obj), W.heap[k]? = some o → (∀ c, o ≠ .cells c 31 (0, 0)) → W'.heap[k]? = some o
theorem Kept.still {W W' : World} (h : Kept W W') : Still W W' := fun k o ho h1 _ _ => h k o ho h1
theorem Kept.trans {A B C : World} (h : Kept A B) (k : Kept B C) : Kept A C := fun i o hi h1 => k i o (h i o hi h1) h1
theorem Kept.below {W W' : World} (h : Below W.heap.size W W') : Kept W W' := fun k _ ho _ => (h.block k (Array.getElem?_eq_some_iff.1 ho).1).trans ho
theorem Kept.from {W W' : World} (B : Nat) (h : Kept W W') (hs : W.heap.size ≤ W'.heap.size) : KeepsFrom B W W' := ⟨hs, fun k _ _ ho hc => h k _ ho (fun c e => by subst e; cases hc)⟩
/-- What a call on the matcher changes are cells. -/
theorem Mt.keeps {W W' : World} {base M : Nat} {sv pv : Value} {wl : List Wt} {P : List Int} {mb : Nat} {es : List Nat} (h : Mt W base M sv pv wl P mb es) (hc : Chg M sv pv W W') (B : Nat) : KeepsFrom B W W' := by
  refine ⟨hc.size, fun k o _ ho hcl => (hc.block k (Array.getElem?_eq_some_iff.1 ho).1 (fun e => ?_) (fun e => ?_) (fun e => ?_)).trans ho⟩
  · subst e
    rw [show W.heap[k]? = _ from h.row] at ho
    cases ho; cases hcl
  · obtain ⟨cur, hcur⟩ := own_block h.st e
    rw [hcur] at ho
    cases ho; cases hcl
  · obtain ⟨cur, hcur⟩ := own_block h.pr e
    rw [hcur] at ho
    cases ho; cases hcl
theorem Still.step {n : Nat} {W W' : World} (h : StepT 31 n W W') : Still W W' := fun k o ho h1 _ _ => h.2 k o ho h1
theorem Still.put {W : World} {l : Nat} {r r' : Loop} (h : W.heap[l]? = some (.loop r)) : Still W (W.putObj l (.loop r')) := fun k o ho _ h2 _ => by
  have hne : k ≠ l := fun e => by subst e; rw [h] at ho; cases ho; exact h2 _ rfl
  exact (World.putObj_heap_other hne).trans ho
theorem Still.drop {W : World} {D : Nat} {d d' : Option (List Deferred)} (h : W.heap[D]? = some (.deferred d)) : Still W (W.putObj D (.deferred d')) := fun k o ho _ _ h2 => by
  have hne : k ≠ D := fun e => by subst e; rw [h] at ho; cases ho; exact h2 _ rfl
  exact (World.putObj_heap_other hne).trans ho
theorem below_drop {n D : Nat} {w X : World} {d d' : Option (List Deferred)} (h : Below n w X) (hn : n ≤ D) (hl : X.heap[D]? = some (.deferred d)) : Below n w (X.putObj D (.deferred d')) :=
  h.trans ((Below.refl n X).grown (grownBy_putObj' X D _) (by have := (Array.getElem?_eq_some_iff.1 hl).1; omega) (fun k e => by cases e; exact hn))
/-- What waits on top, and whether the token closes it. -/
theorem top_gen {W : World} {base M : Nat} {sv pv : Value} {wl : List Wt} {P : List Int} {mb : Nat} {es : List Nat} (h : Mt W base M sv pv wl P mb es) (hl : wl.length ≤ 1001) (t : Tk) (hO : isO t = false) (hC : isC t = true) (k : Nat) : ∃ (T0 T1 : Int) (T2 T3 : ByteArray) (b : Bool),
    (Calls Tryd.prog 41 #[.pointer (some ⟨M, 0, none⟩)] W fun e W5 => e = .returned (.agg #[.int .i64 T0, .int .i64 T1, .string T2, .string T3]) ∧ Below W.heap.size W W5) ∧
    (((8 : Int) == T1) && ((ByteArray.toList ⟨#[]⟩ == T2.toList) && ((bs t.glyph).toList == T3.toList))) = b ∧
    ((b = false ∧ stepM t k wl P = none) ∨ (b = true ∧ ∃ (wl0 : List Wt) (a : Nat) (c : Tk), wl = wl0 ++ [(a, c)] ∧ T0 = (a : Int) ∧ stepM t k wl P = some (wl0, (P.set a (k : Int)).set k (a : Int)))) := by
  have hk : t.kind = 8 := by
    simp only [isC, Bool.and_eq_true, decide_eq_true_eq] at hC
    exact hC.1
  rcases List.eq_nil_or_concat wl with rfl | ⟨wl0, ⟨a, c⟩, rfl⟩
  · refine ⟨-1, 0, ⟨#[]⟩, ⟨#[]⟩, false, top_nil W base M sv pv P mb es h, rfl, .inl ⟨rfl, ?_⟩⟩
    unfold stepM
    rw [if_neg (by rw [hO]; decide), if_pos hC]
    rfl
  · have hs : stepM t k (wl0 ++ [(a, c)]) P = if bareT t = c then some (wl0, (P.set a (k : Int)).set k (a : Int)) else none := by
      unfold stepM
      rw [if_neg (by rw [hO]; decide), if_pos hC, List.getLast?_append, List.getLast?_singleton]
      dsimp only [Option.or]
      rw [List.dropLast_concat]
    rw [List.concat_eq_append] at *
    refine ⟨(a : Int), c.kind, bs c.text, bs c.glyph, decide (bareT t = c), top_some W base M sv pv wl0 (a, c) P mb es h (by simp at hl; omega), ?_, ?_⟩
    · obtain ⟨ck, ct, cg⟩ := c
      have e : (bareT t = ⟨ck, ct, cg⟩) ↔ (8 = ck ∧ [] = ct ∧ t.glyph = cg) := by
        unfold bareT
        rw [Tk.mk.injEq, hk]
      have e1 := bs_eq [] ct
      have e2 := bs_eq t.glyph cg
      change (ByteArray.toList ⟨#[]⟩ == (bs ct).toList) = _ at e1
      dsimp only
      rw [e1, e2]
      by_cases q1 : 8 = ck <;> by_cases q2 : [] = ct <;> by_cases q3 : t.glyph = cg <;> simp [e, q1, q2, q3]
    · by_cases hb : bareT t = c
      · rw [if_pos hb] at hs
        exact .inr ⟨by simpa using hb, wl0, a, c, rfl, rfl, hs⟩
      · rw [if_neg hb] at hs
        exact .inl ⟨by simpa using hb, hs⟩
theorem Still.trans {A B C : World} (h : Still A B) (k : Still B C) : Still A C := fun i o hi h1 h2 h3 => k i o (h i o hi h1 h2 h3) h1 h2 h3

theorem below_put {n l : Nat} {w X : World} {r r' : Loop} (h : Below n w X) (hn : n ≤ l) (hl : X.heap[l]? = some (.loop r)) : Below n w (X.putObj l (.loop r')) :=
  h.trans ((Below.refl n X).grown (grownBy_putObj' X l _) (by have := (Array.getElem?_eq_some_iff.1 hl).1; omega) (fun k e => by cases e; exact hn))

/-- What is left behind all tokens. -/
def MEnd (L : List Tk) (n : Nat) (wl : List Wt) (P : List Int) : Prop := match stAt L n with
  | some s => wl = wts s.1 ∧ P = parts n s.2
  | none => ∃ wl' a, wl = wl' ++ [(a, zT)] ∧ wl'.length ≤ n
/-- What the loop keeps; what it leaves where it is left. -/
def MI (w : World) (base M h n : Nat) (pv : Value) (mb : Nat) (es : List Nat) (L : List Tk) (pre : List (Ix n)) (W : World) : Prop :=
  (∃ sv wl P, Mt W base M sv pv wl P mb es ∧ (∀ k, sv.ownBlock = some k → k ≠ h) ∧ P.length = n ∧ (∀ x ∈ wl, x.1 < n) ∧ wl.length ≤ pre.length ∧ (InOrder pre → ∃ s, stAt L pre.length = some s ∧ wl = wts s.1 ∧ P = parts n s.2)) ∧ Row W h 88 #[.pointer (some ⟨M, 0, none⟩)] ∧ h + 2 ≤ W.heap.size ∧ Below base w W
def MX (w : World) (base M h n : Nat) (pv : Value) (mb : Nat) (es : List Nat) (L : List Tk) (c : Code) (pre : List (Ix n)) (W : World) : Prop :=
  c = .exit 0 ∧ (∃ sv wl P a, Mt W base M sv pv (wl ++ [(a, zT)]) P mb es ∧ wl.length ≤ n ∧ (InOrder pre → stAt L pre.length = none)) ∧ h + 2 ≤ W.heap.size ∧ Below base w W
theorem look_gen (t : Tk) {es : List Nat} (hall : ∀ j, j ∈ es ↔ j < 4) : ∃ (C0 : Int) (C1 C2 : ByteArray) (ok : Bool),
    (∀ (W : World) (m : Nat), MapAt W m es → (Instr.lookup 61 (.map (some m)) (.agg #[.int .i64 t.kind, .string ⟨#[]⟩, .string (bs t.glyph)]) true).run Tryd.prog W = .ok (.tuple #[.agg #[.int .i64 C0, .string C1, .string C2], .bool ok]) W) ∧
    ((isO t = true ∧ ok = true ∧ C0 = 8 ∧ C1 = ⟨#[]⟩ ∧ C2 = bs (clT t).glyph) ∨ (isO t = false ∧ isC t = true ∧ ok = true ∧ C0 = 8 ∧ C1 = ⟨#[]⟩ ∧ C2 = bs t.glyph) ∨ (isO t = false ∧ isC t = false ∧ ok = false)) := by
  by_cases h1 : isO t = true
  · refine ⟨8, ⟨#[]⟩, bs (clT t).glyph, true, fun W m h => ?_, .inl ⟨h1, rfl, rfl, rfl, rfl⟩⟩
    rw [look_tok t h hall, if_pos h1]
    rfl
  · by_cases h2 : isC t = true
    · refine ⟨8, ⟨#[]⟩, bs t.glyph, true, fun W m h => ?_, .inr (.inl ⟨by simpa using h1, h2, rfl, rfl, rfl, rfl⟩)⟩
      rw [look_tok t h hall, if_neg h1, if_pos h2]
      rfl
    · refine ⟨0, ⟨#[]⟩, ⟨#[]⟩, false, fun W m h => ?_, .inr (.inr ⟨by simpa using h1, by simpa using h2, rfl⟩)⟩
      rw [look_tok t h hall, if_neg h1, if_neg h2]

set_option maxRecDepth 100000 in
set_option maxHeartbeats 4000000 in
theorem match_c (w : World) (base M : Nat) (pv : Value) (mb : Nat) (es : List Nat) (a0 : Option Addr) (cap n : Nat) (L : List Tk) (hn : L.length = n) (hn1 : n ≤ 1000) (hM : Mt w base M (.slice none 0 0) pv [] (parts n []) mb es) (hb : base ≤ w.heap.size)
    (hT : 0 < n → ∃ g o, a0 = some ⟨g, o, none⟩ ∧ g < base ∧ ∀ j t, L[j]? = some t → w.cell? ⟨g, o + j * 3, none⟩ = some (.int .i64 t.kind) ∧ w.cell? ⟨g, o + j * 3 + 1, none⟩ = some (.string (bs t.text)) ∧ w.cell? ⟨g, o + j * 3 + 2, none⟩ = some (.string (bs t.glyph))) :
    Calls Tryd.prog 40 #[.pointer (some ⟨M, 0, none⟩), .slice a0 n cap] w fun e W' => (∃ v, e = .returned v) ∧ ∃ sv wl P, Mt W' base M sv pv wl P mb es ∧ Below base w W' ∧ MEnd L n wl P := by
  have HT := Lib.hid hT
  clear hT
  refine (callsIn_wide (n := 5)).1 ?_
  refine callsIn_of_wp_marks Tryd.func40 rfl trivial ?_ rfl
  simp only [Tryd.ntmps40, List.size_toArray, List.length_cons, List.length_nil, Nat.reduceAdd, Nat.reduceSub, Array.replicate_succ, Array.replicate_zero, List.push_toArray, List.append_toArray, List.nil_append, List.cons_append]
  gi_wp2
  refine wpIn_scope_straight ?_
  gi_wp2
  refine wpIn_label ?_
  gi_wp2_with (refine ⟨trivial, ?_⟩; gi_at_call 56; refine (all_in _ 4 trivial rfl _ _ _ _).mono ?_; rintro e w' ⟨rfl, rfl⟩)
  obtain ⟨h, hh⟩ : ∃ h, h = w.heap.size := ⟨_, rfl⟩
  have hmM := hM.row.lt
  obtain ⟨W0, hW0⟩ : ∃ W0, (w.alloc (.cells #[.pointer (some ⟨M, 0, none⟩)] 88)).alloc (.cells #[.slice a0 n cap] 22) = W0 := ⟨_, rfl⟩
  have r1 : Row W0 h 88 #[.pointer (some ⟨M, 0, none⟩)] := by rw [← hW0, hh]; exact (Row.new _ _ _).alloc _
  have r2 : Row W0 (h + 1) 22 #[.slice a0 n cap] := by rw [← hW0, hh]; exact Row.at _ _ _ _ (by simp)
  have hB0 : Below h w W0 := by rw [← hW0, hh]; exact ((Below.refl _ w).alloc (Nat.le_refl _) _).alloc (by simp) _
  have hsz : W0.heap.size = h + 2 := by rw [← hW0, hh]; simp
  have hM0 : Mt W0 base M (.slice none 0 0) pv [] (parts n []) mb es := hM.below (by rw [← hh]; exact hB0)
  have hpn : ∀ k, pv.ownBlock = some k → k < h := fun k e => by have := (hM.pr.lt k e).2; omega
  rw [hW0]
  simp only [← hh]
  rw [← hh] at hb hmM
  have HH := Lib.hid hh
  have HSZ := Lib.hid hsz
  have c2 := r2.cell 0
  simp only [List.getElem?_toArray, List.getElem?_cons_zero] at c2
  have hst := all_stops Fence.wide 4 trivial rfl (by omega) (h + 1) base n cap a0 L hn (by omega) W0 (by omega) (by omega) c2 (fun h0 => by
    obtain ⟨g, o, e1, e2, e3⟩ := HT.out h0
    exact ⟨g, o, e1, e2, fun j t hj => ⟨(hB0.cell (p := ⟨g, o + j * 3, none⟩) (by show g < _; omega)).trans (e3 j t hj).1, (hB0.cell (p := ⟨g, o + j * 3 + 1, none⟩) (by show g < _; omega)).trans (e3 j t hj).2.1, (hB0.cell (p := ⟨g, o + j * 3 + 2, none⟩) (by show g < _; omega)).trans (e3 j t hj).2.2⟩⟩)
  clear hM hW0 hh r2 c2
  refine wpIn_rangeFunc_ownC (t := 31) rfl (by omega) (gf := 71) (lb := #[.pointer (some ⟨h + 1, 0, none⟩)]) rfl trivial (enters_of Tryd.func71 (by kernel_rfl) rfl)
    hst (fun h k => h.trans k) (fun W l r r' hl hX => below_put (Below.refl _ _) (by omega) hX) (Below.refl _ _) (fun _ => rfl)
    (MI w base M h n pv mb es L) (MX w base M h n pv mb es L)
    (fun p X Y hs hb => by
      obtain ⟨⟨sv, wl, P, m1, m2⟩, m3, m4, m5⟩ := hs
      exact ⟨⟨sv, wl, P, m1.still (Still.step hb), m2⟩, Row.still m3 (by decide) (Still.step hb), Nat.le_trans m4 hb.1.size, m5.trans (hb.1.mono (by omega))⟩)
    (fun c p X Y hs hb => by
      obtain ⟨hc, ⟨sv, wl, P, a, m1, m2⟩, m4, m5⟩ := hs
      exact ⟨hc, ⟨sv, wl, P, a, m1.still (Still.step hb), m2⟩, Nat.le_trans m4 hb.1.size, m5.trans (hb.1.mono (by omega))⟩)
    (fun p X l r r' hs hl hX => by
      obtain ⟨⟨sv, wl, P, m1, m2⟩, m3, m4, m5⟩ := hs
      exact ⟨⟨sv, wl, P, m1.still (Still.put hX), m2⟩, Row.still m3 (by decide) (Still.put hX), by rw [show (X.putObj l _).heap.size = X.heap.size by simp [World.putObj]]; exact m4, below_put m5 (by omega) hX⟩)
    (fun c p X l r r' hs hl hX => by
      obtain ⟨hc, ⟨sv, wl, P, a, m1, m2⟩, m4, m5⟩ := hs
      exact ⟨hc, ⟨sv, wl, P, a, m1.still (Still.put hX), m2⟩, by rw [show (X.putObj l _).heap.size = X.heap.size by simp [World.putObj]]; exact m4, below_put m5 (by omega) hX⟩)
    ⟨⟨_, [], _, hM0, (fun k e => by cases e), parts_len _ _, (fun x hx => by cases hx), Nat.zero_le _, fun _ => ⟨([], []), rfl, rfl, rfl⟩⟩, r1, by omega, hB0.mono (by omega)⟩
    (fun x a' W => ∃ Bx, h + 2 ≤ Bx ∧ Row W Bx 31 #[.int .i64 (tokAt L x.1).kind, .string (bs (tokAt L x.1).text), .string (bs (tokAt L x.1).glyph)] ∧ a' = { tmps := #[.pointer (some ⟨M, 0, none⟩), .slice a0 n cap, .pointer (some ⟨h, 0, none⟩), undef, .int .i64 (x.1 : Int), .pointer (some ⟨Bx, 0, none⟩), undef, undef, .slice a0 n cap, .func (.func 71) #[] #[.pointer (some ⟨h + 1, 0, none⟩)], .int .i64 (x.1 : Int), .agg #[.int .i64 (tokAt L x.1).kind, .string (bs (tokAt L x.1).text), .string (bs (tokAt L x.1).glyph)], undef, undef, undef, undef, undef, undef, undef, undef, undef, undef, undef, undef, undef, undef, undef, undef, undef, undef, undef, undef, undef, undef, undef, undef, undef, undef, undef, undef, undef, undef, undef, undef, undef, undef, undef, undef, undef, undef, undef, undef, undef, undef, undef, undef, undef, undef, undef, undef], defers := [] })
    (fun x a' _ X Y row hs hg hr => by obtain ⟨Bx, h1, h2, h3⟩ := hs; exact ⟨Bx, h1, h2.kept hg (fun r e => (hr r e).2), h3⟩)
    ?assign ?body ?done ?stop
  case assign =>
    rintro l pre x W K' ⟨⟨sv, wl, P, m1, m2⟩, m3, m4, m5⟩ hsW hK'
    dsimp only [encA]
    gi_wp2
    have hst : StepT 31 (h + 2) W (W.alloc (.cells #[.int .i64 (tokAt L x.1).kind, .string (bs (tokAt L x.1).text), .string (bs (tokAt L x.1).glyph)] 31)) := ⟨(Below.refl _ W).alloc (by omega) _, fun k o ho _ => (Below.heap_alloc W _ k (Array.getElem?_eq_some_iff.1 ho).1).trans ho⟩
    exact hK' _ _ ((KeepsOthers.alloc _ _).from _) ((Below.refl _ W).alloc (by omega) _) ⟨⟨sv, wl, P, m1.still (Still.step hst), m2⟩, Row.still m3 (by decide) (Still.step hst), by rw [World.size_alloc]; omega, m5.alloc (by omega) _⟩ ⟨W.heap.size, m4, Row.new W _ _, rfl⟩
  case body =>
    rintro l pre x a' W hl ⟨r, hr⟩ ⟨⟨sv, wl, P, m1, m2, m6, m7, m8, m9⟩, m3, m4, m5⟩ ⟨Bx, hBx, bX, rfl⟩ hlt
    have hbx := bX.lt
    obtain ⟨kd, hkd⟩ : ∃ kd : Int, kd = (tokAt L x.1).kind := ⟨_, rfl⟩
    obtain ⟨U, hU⟩ : ∃ U, U = bs (tokAt L x.1).text := ⟨_, rfl⟩
    obtain ⟨G, hGl⟩ : ∃ G, G = bs (tokAt L x.1).glyph := ⟨_, rfl⟩
    rw [← hkd, ← hU, ← hGl] at bX
    rw [← hkd, ← hU, ← hGl]
    obtain ⟨c1, c2, c3, _, _, _⟩ := Rs.tok_cells bX
    have HKD := Lib.hid hkd
    have HU := Lib.hid hU
    have HGL := Lib.hid hGl
    have HM1 := Lib.hid m1
    have HM3 := Lib.hid m3
    have HX := Lib.hid bX
    have HB := Lib.hid m5
    clear m1 m3 m5 bX hr hkd hU hGl
    gi_wp2_with (refine ⟨trivial, ?_⟩; gi_at_call 33; refine (CallsIn.inRound l (callsIn_wide.2 (bare_c kd U G _))).mono ?_; rintro e W1 ⟨rfl, hb1⟩; have bX1 := HX.out.below hb1 HX.out.lt; obtain ⟨d1, d2, d3, g1, g2, g3⟩ := Rs.tok_cells bX1; have HX1 := Lib.hid bX1; have HB1 := Lib.hid hb1; clear c1 c2 c3 hb1 bX1)
    gi_wp2
    obtain ⟨W2, hW2⟩ : ∃ W2, ((W1.setCell ⟨Bx, 0, none⟩ (.int .i64 kd)).setCell ⟨Bx, 1, none⟩ (.string ⟨#[]⟩)).setCell ⟨Bx, 2, none⟩ (.string G) = W2 := ⟨_, rfl⟩
    have hX2 : Row W2 Bx 31 #[.int .i64 kd, .string ⟨#[]⟩, .string G] := by rw [← hW2]; exact Rs.tok_set HX1.out _ _ _
    have hS2 : Kept W W2 := by
      rw [← hW2]
      intro k o ho h1
      have hk : k ≠ Bx := fun e => by
        subst e
        rw [show W.heap[k]? = _ from HX.out] at ho
        cases ho
        exact h1 _ rfl
      rw [Below.heap_setCell _ _ _ _ hk, Below.heap_setCell _ _ _ _ hk, Below.heap_setCell _ _ _ _ hk, HB1.out.block k (Array.getElem?_eq_some_iff.1 ho).1]
      exact ho
    have hB2 : Below base w W2 := by rw [← hW2]; exact (((HB.out.trans (HB1.out.mono (by omega))).setCell (by dsimp only; omega) _).setCell (by dsimp only; omega) _).setCell (by dsimp only; omega) _
    have HBK2 : Hid (Below base W W2) := Lib.hid (by rw [← hW2]; exact (((HB1.out.mono (by omega)).setCell (by dsimp only; omega) _).setCell (by dsimp only; omega) _).setCell (by dsimp only; omega) _)
    have hz2 : W.heap.size ≤ W2.heap.size := by rw [← hW2]; simp only [World.size_setCell]; exact HB1.out.size
    have hM2 := HM1.out.still hS2.still
    have h32 := Row.still HM3.out (by decide) hS2.still
    rw [hW2]
    have e0 := h32.cell 0
    have e1 := hM2.row.cell 2
    obtain ⟨e2, e3, e4, _, _, _⟩ := Rs.tok_cells hX2
    simp only [List.getElem?_toArray, List.getElem?_cons_zero, List.getElem?_cons_succ] at e0 e1
    obtain ⟨C0, C1, C2, ok, hlk, hck⟩ := look_gen (tokAt L x.1) hM2.all
    rw [← HKD.out, ← HGL.out] at hlk
    have HLK := Lib.hid hlk
    have HCK := Lib.hid hck
    have hmp := hM2.mp
    have t1 := h32.lt
    have t2 := hM2.row.lt
    have t3 := hX2.lt
    have HM2 := Lib.hid hM2
    have H32 := Lib.hid h32
    have HX2 := Lib.hid hX2
    have HB2 := Lib.hid hB2
    have HS2 := Lib.hid hS2
    have hbh : Bx ≠ h := by omega
    obtain ⟨B6, hB6⟩ : ∃ B, B = W2.heap.size := ⟨_, rfl⟩
    obtain ⟨A1, hA1⟩ : ∃ A, A = W2.drew.alloc (.cells #[.int .i64 0, .string ⟨#[]⟩, .string ⟨#[]⟩] 31) := ⟨_, rfl⟩
    have ha1 : Below W2.heap.size W2 A1 := by rw [hA1]; exact (Below.refl _ W2).drew.alloc (Nat.le_refl _) _
    have rA1 : Row A1 B6 31 #[.int .i64 0, .string ⟨#[]⟩, .string ⟨#[]⟩] := by rw [hA1, hB6]; exact Row.new W2.drew _ _
    obtain ⟨A2, hA2⟩ : ∃ A, A = ((A1.setCell ⟨B6, 0, none⟩ (.int .i64 C0)).setCell ⟨B6, 1, none⟩ (.string C1)).setCell ⟨B6, 2, none⟩ (.string C2) := ⟨_, rfl⟩
    have ha2 : Below W2.heap.size W2 A2 := by rw [hA2]; exact ((ha1.setCell (by dsimp only; omega) _).setCell (by dsimp only; omega) _).setCell (by dsimp only; omega) _
    have rA2 : Row A2 B6 31 #[.int .i64 C0, .string C1, .string C2] := by rw [hA2]; exact Rs.tok_set rA1 _ _ _
    obtain ⟨J0, hJ0⟩ : ∃ J0 : Bool → Bool → World → Prop, J0 = fun b c W' => (b = false ∧ c = false ∧ W' = W2.drew) ∨ (b = true ∧ c = false ∧ W' = A1) ∨ (b = true ∧ c = true ∧ W' = A2) := ⟨_, rfl⟩
    have HJ0 : Hid (∀ b c W', J0 b c W' ↔ (b = false ∧ c = false ∧ W' = W2.drew) ∨ (b = true ∧ c = false ∧ W' = A1) ∨ (b = true ∧ c = true ∧ W' = A2)) := Lib.hid (fun b c W' => by rw [hJ0])
    have HC : Hid (∀ b c W', J0 b c W' → W'.cell? ⟨h, 0, none⟩ = some (.pointer (some ⟨M, 0, none⟩)) ∧ W'.cell? ⟨M, 2, none⟩ = some (.map (some mb)) ∧ W'.cell? ⟨Bx, 0, none⟩ = some (.int .i64 kd) ∧ W'.cell? ⟨Bx, 1, none⟩ = some (.string ⟨#[]⟩) ∧ W'.cell? ⟨Bx, 2, none⟩ = some (.string G) ∧ (Instr.lookup 61 (.map (some mb)) (.agg #[.int .i64 kd, .string ⟨#[]⟩, .string G]) true).run Tryd.prog W' = .ok (.tuple #[.agg #[.int .i64 C0, .string C1, .string C2], .bool ok]) W') := Lib.hid (fun b c W' hj => by
      have hbw : Below W2.heap.size W2 W' := by
        rcases (HJ0.out _ _ _).1 hj with ⟨_, _, rfl⟩ | ⟨_, _, rfl⟩ | ⟨_, _, rfl⟩
        · exact (Below.refl _ _).drew
        · exact ha1
        · exact ha2
      exact ⟨(hbw.cell (p := ⟨h, 0, none⟩) t1).trans e0, (hbw.cell (p := ⟨M, 2, none⟩) t2).trans e1, (hbw.cell (p := ⟨Bx, 0, none⟩) t3).trans e2, (hbw.cell (p := ⟨Bx, 1, none⟩) t3).trans e3, (hbw.cell (p := ⟨Bx, 2, none⟩) t3).trans e4, HLK.out _ _ (hmp.below hbw)⟩)
    obtain ⟨f0, f1, f2, f3, f4, f5⟩ := Rs.tok_cells rA1
    have HR2 := Lib.hid rA2
    have HA2 := Lib.hid ha2
    clear hX2 hS2 hB2 hM2 h32 hW2 hlk hck HX1 HB1 d1 d2 d3 g1 g2 g3 HB HM1 HM3 e0 e1 e2 e3 e4 ha1 rA1 ha2 rA2 hmp hJ0
    refine wpIn_region_shape (by kernel_rfl) (by kernel_rfl) (fun i => [Value.pointer (some ⟨M, 0, none⟩), .pointer (some ⟨M, 0, none⟩), .pointer (some ⟨M, 2, none⟩), .map (some mb), .agg #[.int .i64 kd, .string ⟨#[]⟩, .string G], .tuple #[.agg #[.int .i64 C0, .string C1, .string C2], .bool ok], .tuple #[.agg #[.int .i64 C0, .string C1, .string C2], .bool ok], .agg #[.int .i64 C0, .string C1, .string C2], .bool ok, .pointer (some ⟨B6, 0, none⟩), undef, .bool ok].getD i undef) { tmps := #[.pointer (some ⟨M, 0, none⟩), .slice a0 n cap, .pointer (some ⟨h, 0, none⟩), undef, .int .i64 (x.1 : Int), .pointer (some ⟨Bx, 0, none⟩), .pointer (some ⟨B6, 0, none⟩), .bool ok, .slice a0 n cap, .func (.func 71) #[] #[.pointer (some ⟨h + 1, 0, none⟩)], .int .i64 (x.1 : Int), .agg #[.int .i64 kd, .string U, .string G], .agg #[.int .i64 kd, .string U, .string G], .agg #[.int .i64 kd, .string ⟨#[]⟩, .string G], .tuple #[.agg #[.int .i64 C0, .string C1, .string C2], .bool ok], Value.pointer (some ⟨M, 0, none⟩), .pointer (some ⟨M, 0, none⟩), .pointer (some ⟨M, 2, none⟩), .map (some mb), .agg #[.int .i64 kd, .string ⟨#[]⟩, .string G], .tuple #[.agg #[.int .i64 C0, .string C1, .string C2], .bool ok], .agg #[.int .i64 C0, .string C1, .string C2], .bool ok, undef, undef, undef, undef, undef, undef, undef, undef, undef, undef, undef, undef, undef, undef, undef, undef, undef, undef, undef, undef, undef, undef, undef, undef, undef, undef, undef, undef, undef, undef, undef, undef, undef, undef, undef, undef, undef], defers := [] } ?_ (fun listed W' => J0 (listed.getD 9 false) (listed.getD 10 false) W') ((HJ0.out _ _ _).2 (.inl ⟨rfl, rfl, rfl⟩)) ?_ ?_
    · kernel_rfl
    · intro i o listed a' w' ho hsz hu haf hS hJ
      have hnx : ∀ i, i < 12 → i ≠ 9 → i ≠ 10 → J0 ((listed.setIfInBounds i true).getD 9 false) ((listed.setIfInBounds i true).getD 10 false) w' := fun i hi h1 h2 => by
        rw [getD_set _ _ _ _ (by rw [hsz]; exact hi), getD_set _ _ _ _ (by rw [hsz]; exact hi), if_neg h1, if_neg h2]
        exact hJ
      have hi : i < 12 := (Array.getElem?_eq_some_iff.1 ho).1
      obtain rfl | rfl | rfl | rfl | rfl | rfl | rfl | rfl | rfl | rfl | rfl | rfl : i = 0 ∨ i = 1 ∨ i = 2 ∨ i = 3 ∨ i = 4 ∨ i = 5 ∨ i = 6 ∨ i = 7 ∨ i = 8 ∨ i = 9 ∨ i = 10 ∨ i = 11 := by omega
      · cases ho
        have q2 : a'.tmps[2]? = some (.pointer (some ⟨h, 0, none⟩)) := (hS.tmpBase 2 (by kernel_rfl)).trans rfl
        obtain ⟨k0, _, _, _, _, _⟩ := HC.out _ _ _ hJ
        refine op_val (Value.pointer (some ⟨M, 0, none⟩)) w' (fun _ _ => trivial) ?_ ⟨rfl, hnx 0 (by omega) (by omega) (by omega)⟩
        rw [Oper.semAt_plain _ _ _ (by intro c h; cases h)]
        simp [execOp, q2, k0, go_sem]
      · cases ho
        have q15 : a'.tmps[15]? = some (Value.pointer (some ⟨M, 0, none⟩)) := hS.tmpSet 0 _ 15 rfl rfl (by simp) (haf ⟨0, .data⟩ (Array.mem_of_getElem? (i := 0) rfl) rfl)
        refine op_val (.pointer (some ⟨M, 0, none⟩)) w' (fun _ _ => trivial) ?_ ⟨rfl, hnx 1 (by omega) (by omega) (by omega)⟩
        rw [Oper.semAt_plain _ _ _ (by intro c h; cases h)]
        simp [execOp, q15, go_sem]
      · cases ho
        have q16 : a'.tmps[16]? = some (.pointer (some ⟨M, 0, none⟩)) := hS.tmpSet 1 _ 16 rfl rfl (by simp) (haf ⟨1, .data⟩ (Array.mem_of_getElem? (i := 0) rfl) rfl)
        refine op_val (.pointer (some ⟨M, 2, none⟩)) w' (fun _ _ => trivial) ?_ ⟨rfl, hnx 2 (by omega) (by omega) (by omega)⟩
        rw [Oper.semAt_plain _ _ _ (by intro c h; cases h)]
        simp [execOp, q16, go_sem]
      · cases ho
        have q17 : a'.tmps[17]? = some (.pointer (some ⟨M, 2, none⟩)) := hS.tmpSet 2 _ 17 rfl rfl (by simp) (haf ⟨2, .data⟩ (Array.mem_of_getElem? (i := 0) rfl) rfl)
        obtain ⟨_, k1, _, _, _, _⟩ := HC.out _ _ _ hJ
        refine op_val (.map (some mb)) w' (fun _ _ => trivial) ?_ ⟨rfl, hnx 3 (by omega) (by omega) (by omega)⟩
        rw [Oper.semAt_plain _ _ _ (by intro c h; cases h)]
        simp [execOp, q17, k1, go_sem]
      · cases ho
        have q5 : a'.tmps[5]? = some (.pointer (some ⟨Bx, 0, none⟩)) := (hS.tmpBase 5 (by kernel_rfl)).trans rfl
        obtain ⟨_, _, k2, k3, k4, _⟩ := HC.out _ _ _ hJ
        refine op_val (.agg #[.int .i64 kd, .string ⟨#[]⟩, .string G]) w' (fun _ _ => trivial) ?_ ⟨rfl, hnx 4 (by omega) (by omega) (by omega)⟩
        rw [Oper.semAt_plain _ _ _ (by intro c h; cases h)]
        simp [execOp, q5, k2, k3, k4, go_sem]
      · cases ho
        have q18 : a'.tmps[18]? = some (.map (some mb)) := hS.tmpSet 3 _ 18 rfl rfl (by simp) (haf ⟨3, .data⟩ (Array.mem_of_getElem? (i := 0) rfl) rfl)
        have q19 : a'.tmps[19]? = some (.agg #[.int .i64 kd, .string ⟨#[]⟩, .string G]) := hS.tmpSet 4 _ 19 rfl rfl (by simp) (haf ⟨4, .data⟩ (Array.mem_of_getElem? (i := 1) rfl) rfl)
        obtain ⟨_, _, _, _, _, k5⟩ := HC.out _ _ _ hJ
        refine op_val (.tuple #[.agg #[.int .i64 C0, .string C1, .string C2], .bool ok]) w' (fun _ _ => trivial) ?_ ⟨rfl, hnx 5 (by omega) (by omega) (by omega)⟩
        rw [Oper.semAt_plain _ _ _ (by intro c h; cases h)]
        simp [execOp, q18, q19, k5, go_sem]
      · cases ho
        have q20 : a'.tmps[20]? = some (.tuple #[.agg #[.int .i64 C0, .string C1, .string C2], .bool ok]) := hS.tmpSet 5 _ 20 rfl rfl (by simp) (haf ⟨5, .data⟩ (Array.mem_of_getElem? (i := 0) rfl) rfl)
        refine op_val (.tuple #[.agg #[.int .i64 C0, .string C1, .string C2], .bool ok]) w' (fun _ _ => trivial) ?_ ⟨rfl, hnx 6 (by omega) (by omega) (by omega)⟩
        rw [Oper.semAt_plain _ _ _ (by intro c h; cases h)]
        simp [execOp, q20, go_sem]
      · cases ho
        have q14 : a'.tmps[14]? = some (.tuple #[.agg #[.int .i64 C0, .string C1, .string C2], .bool ok]) := hS.tmpSet 6 _ 14 rfl rfl (by simp) (haf ⟨6, .data⟩ (Array.mem_of_getElem? (i := 0) rfl) rfl)
        refine op_val (.agg #[.int .i64 C0, .string C1, .string C2]) w' (fun _ _ => trivial) ?_ ⟨rfl, hnx 7 (by omega) (by omega) (by omega)⟩
        rw [Oper.semAt_plain _ _ _ (by intro c h; cases h)]
        simp [execOp, q14, go_sem]
      · cases ho
        have q14 : a'.tmps[14]? = some (.tuple #[.agg #[.int .i64 C0, .string C1, .string C2], .bool ok]) := hS.tmpSet 6 _ 14 rfl rfl (by simp) (haf ⟨6, .data⟩ (Array.mem_of_getElem? (i := 0) rfl) rfl)
        refine op_val (.bool ok) w' (fun _ _ => trivial) ?_ ⟨rfl, hnx 8 (by omega) (by omega) (by omega)⟩
        rw [Oper.semAt_plain _ _ _ (by intro c h; cases h)]
        simp [execOp, q14, go_sem]
      · cases ho
        rcases (HJ0.out _ _ _).1 hJ with ⟨q, q2, rfl⟩ | ⟨q, _, _⟩ | ⟨q, _, _⟩
        · refine op_val (.pointer (some ⟨B6, 0, none⟩)) A1 (fun _ _ => trivial) ?_ ⟨rfl, (HJ0.out _ _ _).2 (.inr (.inl ⟨by rw [getD_set _ _ _ _ (by rw [hsz]; decide), if_pos rfl], by rw [getD_set _ _ _ _ (by rw [hsz]; decide), if_neg (by decide)]; exact q2, rfl⟩))⟩
          rw [Oper.semAt_plain _ _ _ (by intro c h; cases h)]
          rw [hA1, hB6]
          simp [execOp, go_sem]
        · rw [hu] at q; cases q
        · rw [hu] at q; cases q
      · cases ho
        have q6 : a'.tmps[6]? = some (.pointer (some ⟨B6, 0, none⟩)) := hS.tmpSet 9 _ 6 rfl rfl (by simp) (haf ⟨9, .data⟩ (Array.mem_of_getElem? (i := 0) rfl) rfl)
        have q21 : a'.tmps[21]? = some (.agg #[.int .i64 C0, .string C1, .string C2]) := hS.tmpSet 7 _ 21 rfl rfl (by simp) (haf ⟨7, .data⟩ (Array.mem_of_getElem? (i := 1) rfl) rfl)
        have q9 : listed.getD 9 false = true := haf ⟨9, .data⟩ (Array.mem_of_getElem? (i := 0) rfl) rfl
        rcases (HJ0.out _ _ _).1 hJ with ⟨q, _, _⟩ | ⟨_, _, rfl⟩ | ⟨_, q, _⟩
        · rw [q9] at q; cases q
        · refine op_skip A2 (fun _ _ => trivial) ?_ ⟨rfl, (HJ0.out _ _ _).2 (.inr (.inr ⟨by rw [getD_set _ _ _ _ (by rw [hsz]; decide), if_neg (by decide)]; exact q9, by rw [getD_set _ _ _ _ (by rw [hsz]; decide), if_pos rfl], rfl⟩))⟩
          rw [Oper.semAt_plain _ _ _ (by intro c h; cases h), hA2]
          simp [execOp, q6, q21, f0, f1, f2, f3, f4, f5, go_sem]
        · rw [hu] at q; cases q
      · cases ho
        have q22 : a'.tmps[22]? = some (.bool ok) := hS.tmpSet 8 _ 22 rfl rfl (by simp) (haf ⟨8, .data⟩ (Array.mem_of_getElem? (i := 0) rfl) rfl)
        refine op_val (.bool ok) w' (fun _ _ => trivial) ?_ ⟨rfl, hnx 11 (by omega) (by omega) (by omega)⟩
        rw [Oper.semAt_plain _ _ _ (by intro c h; cases h)]
        simp [execOp, q22, go_sem]
    · intro listed W' hl hJ
      obtain rfl : W' = A2 := by
        have h9 := hl 9 (by decide)
        have h10 := hl 10 (by decide)
        rcases (HJ0.out _ _ _).1 hJ with ⟨q, _, _⟩ | ⟨_, q, _⟩ | ⟨_, _, q⟩
        · rw [h9] at q; cases q
        · rw [h10] at q; cases q
        · exact q
      clear hJ hl HC HJ0 f0 f1 f2 f3 f4 f5
      have hX3 := HX2.out.below HA2.out t3
      have hM3 := HM2.out.below HA2.out
      have h33 := H32.out.below HA2.out t1
      have hB3 : Below base w W' := HB2.out.trans (HA2.out.mono (by omega))
      have hK3 : Kept W W' := HS2.out.trans (Kept.below HA2.out)
      have hz3 : W.heap.size ≤ W'.heap.size := by have := HA2.out.size; omega
      obtain ⟨e2, e3, e4, _, _, _⟩ := Rs.tok_cells hX3
      obtain ⟨k2, k3, k4, _, _, _⟩ := Rs.tok_cells HR2.out
      have e0 := h33.cell 0
      simp only [List.getElem?_toArray, List.getElem?_cons_zero] at e0
      have t4 := h33.lt
      have t5 := hM3.row.lt
      have t6 := hX3.lt
      have t7 := HR2.out.lt
      have HM3 := Lib.hid hM3
      have H33 := Lib.hid h33
      have HB3 := Lib.hid hB3
      have HK3 := Lib.hid hK3
      have HX3 := Lib.hid hX3
      have H6 := Lib.hid hB6
      have HBK : Hid (Below base W W') := Lib.hid (HBK2.out.trans (HA2.out.mono (by have := HB2.out.size; omega)))
      clear hX3 hM3 h33 hB3 hK3 t1 t2 t3 hA1 hA2 hB6
      rcases HCK.out with ⟨hO, rfl, rfl, rfl, hV⟩ | ⟨hO, hC, rfl, rfl, rfl, hV⟩ | ⟨hO, hC, rfl⟩
      · have HV := Lib.hid hV
        have hO2 := hO
        simp only [isO, Bool.and_eq_true, Bool.or_eq_true, decide_eq_true_eq] at hO2
        obtain rfl : kd = 8 := HKD.out.trans hO2.1
        have hgv : (G.toList == C2.toList) = false := by
          rw [HGL.out, hV, bs_eq]
          unfold clT
          rcases hO2.2 with e | e <;> rw [e] <;> rfl
        have HO := Lib.hid hO
        obtain ⟨B7, hB7⟩ : ∃ B, B = W'.heap.size := ⟨_, rfl⟩
        obtain ⟨A3, hA3⟩ : ∃ A, A = W'.drew.alloc (.cells #[.int .i64 (x.1 : Int), .int .i64 8, .string ⟨#[]⟩, .string C2] 71) := ⟨_, rfl⟩
        have ha3 : Below W'.heap.size W' A3 := by rw [hA3]; exact (Below.refl _ W').drew.alloc (Nat.le_refl _) _
        have hz4 : A3.heap.size = W'.heap.size + 1 := by rw [hA3]; simp
        have rA3 : Row A3 B7 71 #[.int .i64 (x.1 : Int), .int .i64 8, .string ⟨#[]⟩, .string C2] := by rw [hA3, hB7]; exact Row.new W'.drew _ _
        have hM4 := HM3.out.below ha3
        have h34 := H33.out.below ha3 t4
        have rB4 := HR2.out.below ha3 t7
        have hpush := push_c A3 base M B7 sv pv wl (x.1, clT (tokAt L x.1)) P mb es hM4 (by omega) (by have := HB3.out.size; omega) (fun i hi => by
          have e : (wcell (x.1, clT (tokAt L x.1))) = [.int .i64 (x.1 : Int), .int .i64 8, .string ⟨#[]⟩, .string C2] := by
            unfold wcell
            rw [hV]
            rfl
          rw [e, rA3.cell i]
          simp)
        have hpst : ∀ W5, StTo A3 base M sv pv (wl ++ [(x.1, clT (tokAt L x.1))]) P mb es W5 → Row W5 h 88 #[.pointer (some ⟨M, 0, none⟩)] ∧ Row W5 B6 31 #[.int .i64 8, .string ⟨#[]⟩, .string C2] := fun W5 ⟨sv5, q1, q2, q3⟩ => by
          refine ⟨(q2.block h h34.lt (by omega) (fun e => m2 h e rfl) (fun e => by have := hpn h e; omega)).trans h34, (q2.block B6 rB4.lt (by have := H6.out; omega) (fun e => ?_) (fun e => by have := hpn B6 e; have := H6.out; omega)).trans rB4⟩
          obtain ⟨cur, hcur⟩ := own_block hM4.st e
          rw [show A3.heap[B6]? = _ from rB4] at hcur
          injection hcur with hcur
          injection hcur with _ e2 _
          exact absurd e2 (by decide)
        have HPU := Lib.hid hpush
        have HPS := Lib.hid hpst
        have HM4 := Lib.hid hM4
        have HA3 := Lib.hid ha3
        have HZ4 := Lib.hid hz4
        have g0 : A3.cell? ⟨h, 0, none⟩ = some (.pointer (some ⟨M, 0, none⟩)) := h34.cell 0
        obtain ⟨g2, g3, g4, _, _, _⟩ := Rs.tok_cells rB4
        obtain ⟨J0, hJ0⟩ : ∃ J0 : Bool → Bool → World → Prop, J0 = fun b c W5 => (b = false ∧ c = false ∧ W5 = W'.drew) ∨ (b = true ∧ c = false ∧ W5 = A3) ∨ (b = true ∧ c = true ∧ StTo A3 base M sv pv (wl ++ [(x.1, clT (tokAt L x.1))]) P mb es W5) := ⟨_, rfl⟩
        have HJ0 : Hid (∀ b c W5, J0 b c W5 ↔ (b = false ∧ c = false ∧ W5 = W'.drew) ∨ (b = true ∧ c = false ∧ W5 = A3) ∨ (b = true ∧ c = true ∧ StTo A3 base M sv pv (wl ++ [(x.1, clT (tokAt L x.1))]) P mb es W5)) := Lib.hid (fun b c W5 => by rw [hJ0])
        have HC : Hid (∀ b c W5, J0 b c W5 → W5.cell? ⟨h, 0, none⟩ = some (.pointer (some ⟨M, 0, none⟩)) ∧ W5.cell? ⟨B6, 0, none⟩ = some (.int .i64 8) ∧ W5.cell? ⟨B6, 1, none⟩ = some (.string ⟨#[]⟩) ∧ W5.cell? ⟨B6, 2, none⟩ = some (.string C2)) := Lib.hid (fun b c W5 hj => by
          rcases (HJ0.out _ _ _).1 hj with ⟨_, _, rfl⟩ | ⟨_, _, rfl⟩ | ⟨_, _, q⟩
          · exact ⟨e0, k2, k3, k4⟩
          · exact ⟨g0, g2, g3, g4⟩
          · obtain ⟨p1, p2⟩ := HPS.out _ q
            obtain ⟨q2, q3, q4, _, _, _⟩ := Rs.tok_cells p2
            exact ⟨p1.cell 0, q2, q3, q4⟩)
        clear hV hO2 hO hM4 h34 rB4 hpush hpst ha3 rA3 hz4 hJ0 g0 g2 g3 g4
        gi_wp2
        clear e0 e2 e3 e4 k2 k3 k4
        refine wpIn_region_shape (by kernel_rfl) (by kernel_rfl) (fun i => [Value.pointer (some ⟨M, 0, none⟩), .pointer (some ⟨M, 0, none⟩), .pointer (some ⟨M, 0, none⟩), .int .i64 (x.1 : Int), .agg #[.int .i64 8, .string ⟨#[]⟩, .string C2], .agg #[.int .i64 (x.1 : Int), .int .i64 8, .string ⟨#[]⟩, .string C2], .slice (some ⟨B7, 0, none⟩) 1 1, .tuple #[]].getD i undef) { tmps := #[.pointer (some ⟨M, 0, none⟩), .slice a0 n cap, .pointer (some ⟨h, 0, none⟩), undef, .int .i64 (x.1 : Int), .pointer (some ⟨Bx, 0, none⟩), .pointer (some ⟨B6, 0, none⟩), .bool true, .slice a0 n cap, .func (.func 71) #[] #[.pointer (some ⟨h + 1, 0, none⟩)], .int .i64 (x.1 : Int), .agg #[.int .i64 8, .string U, .string G], .agg #[.int .i64 8, .string U, .string G], .agg #[.int .i64 8, .string ⟨#[]⟩, .string G], .tuple #[.agg #[.int .i64 8, .string ⟨#[]⟩, .string C2], .bool true], Value.pointer (some ⟨M, 0, none⟩), .pointer (some ⟨M, 0, none⟩), .pointer (some ⟨M, 2, none⟩), .map (some mb), .agg #[.int .i64 8, .string ⟨#[]⟩, .string G], .tuple #[.agg #[.int .i64 8, .string ⟨#[]⟩, .string C2], .bool true], .agg #[.int .i64 8, .string ⟨#[]⟩, .string C2], .bool true, undef, undef, undef, undef, undef, undef, undef, .bool false, .bool true, .bool false, .bool true, .agg #[.int .i64 8, .string ⟨#[]⟩, .string G], .agg #[.int .i64 8, .string ⟨#[]⟩, .string C2], .bool true, Value.pointer (some ⟨M, 0, none⟩), .pointer (some ⟨M, 0, none⟩), .pointer (some ⟨M, 0, none⟩), .int .i64 (x.1 : Int), .agg #[.int .i64 8, .string ⟨#[]⟩, .string C2], .agg #[.int .i64 (x.1 : Int), .int .i64 8, .string ⟨#[]⟩, .string C2], .slice (some ⟨B7, 0, none⟩) 1 1, .tuple #[], undef, undef, undef, undef, undef, undef, undef, undef, undef, undef, undef, undef, undef, undef, undef], defers := [] } ?_ (fun listed W5 => J0 (listed.getD 6 false) (listed.getD 7 false) W5) ((HJ0.out _ _ _).2 (.inl ⟨rfl, rfl, rfl⟩)) ?_ ?_
        · kernel_rfl
        · intro i o listed a' w' ho hsz hu haf hS hJ
          have hnx : ∀ i, i < 8 → i ≠ 6 → i ≠ 7 → J0 ((listed.setIfInBounds i true).getD 6 false) ((listed.setIfInBounds i true).getD 7 false) w' := fun i hi h1 h2 => by
            rw [getD_set _ _ _ _ (by rw [hsz]; exact hi), getD_set _ _ _ _ (by rw [hsz]; exact hi), if_neg h1, if_neg h2]
            exact hJ
          have hi : i < 8 := (Array.getElem?_eq_some_iff.1 ho).1
          obtain rfl | rfl | rfl | rfl | rfl | rfl | rfl | rfl : i = 0 ∨ i = 1 ∨ i = 2 ∨ i = 3 ∨ i = 4 ∨ i = 5 ∨ i = 6 ∨ i = 7 := by omega
          · cases ho
            have q2 : a'.tmps[2]? = some (.pointer (some ⟨h, 0, none⟩)) := (hS.tmpBase 2 (by kernel_rfl)).trans rfl
            obtain ⟨k0, _, _, _⟩ := HC.out _ _ _ hJ
            refine op_val (Value.pointer (some ⟨M, 0, none⟩)) w' (fun _ _ => trivial) ?_ ⟨rfl, hnx 0 (by omega) (by omega) (by omega)⟩
            rw [Oper.semAt_plain _ _ _ (by intro c h; cases h)]
            simp [execOp, q2, k0, go_sem]
          · cases ho
            have q37 : a'.tmps[37]? = some (Value.pointer (some ⟨M, 0, none⟩)) := hS.tmpSet 0 _ 37 rfl rfl (by simp) (haf ⟨0, .data⟩ (Array.mem_of_getElem? (i := 0) rfl) rfl)
            refine op_val (.pointer (some ⟨M, 0, none⟩)) w' (fun _ _ => trivial) ?_ ⟨rfl, hnx 1 (by omega) (by omega) (by omega)⟩
            rw [Oper.semAt_plain _ _ _ (by intro c h; cases h)]
            simp [execOp, q37, go_sem]
          · cases ho
            have q38 : a'.tmps[38]? = some (.pointer (some ⟨M, 0, none⟩)) := hS.tmpSet 1 _ 38 rfl rfl (by simp) (haf ⟨1, .data⟩ (Array.mem_of_getElem? (i := 0) rfl) rfl)
            refine op_val (.pointer (some ⟨M, 0, none⟩)) w' (fun _ _ => trivial) ?_ ⟨rfl, hnx 2 (by omega) (by omega) (by omega)⟩
            rw [Oper.semAt_plain _ _ _ (by intro c h; cases h)]
            simp [execOp, q38, go_sem]
          · cases ho
            have q4 : a'.tmps[4]? = some (.int .i64 (x.1 : Int)) := (hS.tmpBase 4 (by kernel_rfl)).trans rfl
            refine op_val (.int .i64 (x.1 : Int)) w' (fun _ _ => trivial) ?_ ⟨rfl, hnx 3 (by omega) (by omega) (by omega)⟩
            rw [Oper.semAt_plain _ _ _ (by intro c h; cases h)]
            simp [execOp, q4, go_sem]
          · cases ho
            have q6 : a'.tmps[6]? = some (.pointer (some ⟨B6, 0, none⟩)) := (hS.tmpBase 6 (by kernel_rfl)).trans rfl
            obtain ⟨_, k2, k3, k4⟩ := HC.out _ _ _ hJ
            refine op_val (.agg #[.int .i64 8, .string ⟨#[]⟩, .string C2]) w' (fun _ _ => trivial) ?_ ⟨rfl, hnx 4 (by omega) (by omega) (by omega)⟩
            rw [Oper.semAt_plain _ _ _ (by intro c h; cases h)]
            simp [execOp, q6, k2, k3, k4, go_sem]
          · cases ho
            have q40 : a'.tmps[40]? = some (.int .i64 (x.1 : Int)) := hS.tmpSet 3 _ 40 rfl rfl (by simp) (haf ⟨3, .data⟩ (Array.mem_of_getElem? (i := 0) rfl) rfl)
            have q41 : a'.tmps[41]? = some (.agg #[.int .i64 8, .string ⟨#[]⟩, .string C2]) := hS.tmpSet 4 _ 41 rfl rfl (by simp) (haf ⟨4, .data⟩ (Array.mem_of_getElem? (i := 1) rfl) rfl)
            refine op_val (.agg #[.int .i64 (x.1 : Int), .int .i64 8, .string ⟨#[]⟩, .string C2]) w' (fun _ _ => trivial) ?_ ⟨rfl, hnx 5 (by omega) (by omega) (by omega)⟩
            rw [Oper.semAt_plain _ _ _ (by intro c h; cases h)]
            simp [execOp, q40, q41, go_sem]
          · cases ho
            have q42 : a'.tmps[42]? = some (.agg #[.int .i64 (x.1 : Int), .int .i64 8, .string ⟨#[]⟩, .string C2]) := hS.tmpSet 5 _ 42 rfl rfl (by simp) (haf ⟨5, .data⟩ (Array.mem_of_getElem? (i := 0) rfl) rfl)
            rcases (HJ0.out _ _ _).1 hJ with ⟨q, q2, rfl⟩ | ⟨q, _, _⟩ | ⟨q, _, _⟩
            · refine op_val (.slice (some ⟨B7, 0, none⟩) 1 1) A3 (fun _ _ => trivial) ?_ ⟨rfl, (HJ0.out _ _ _).2 (.inr (.inl ⟨by rw [getD_set _ _ _ _ (by rw [hsz]; decide), if_pos rfl], by rw [getD_set _ _ _ _ (by rw [hsz]; decide), if_neg (by decide)]; exact q2, rfl⟩))⟩
              rw [Oper.semAt_plain _ _ _ (by intro c h; cases h)]
              rw [hA3, hB7]
              simp [execOp, q42, go_sem]
            · rw [hu] at q; cases q
            · rw [hu] at q; cases q
          · cases ho
            have q39 : a'.tmps[39]? = some (.pointer (some ⟨M, 0, none⟩)) := hS.tmpSet 2 _ 39 rfl rfl (by simp) (haf ⟨2, .data⟩ (Array.mem_of_getElem? (i := 0) rfl) rfl)
            have q43 : a'.tmps[43]? = some (.slice (some ⟨B7, 0, none⟩) 1 1) := hS.tmpSet 6 _ 43 rfl rfl (by simp) (haf ⟨6, .data⟩ (Array.mem_of_getElem? (i := 1) rfl) rfl)
            have q9 : listed.getD 6 false = true := haf ⟨6, .data⟩ (Array.mem_of_getElem? (i := 1) rfl) rfl
            rcases (HJ0.out _ _ _).1 hJ with ⟨q, _, _⟩ | ⟨_, _, rfl⟩ | ⟨_, q, _⟩
            · rw [q9] at q; cases q
            · refine op_call 57 #[.pointer (some ⟨M, 0, none⟩), .slice (some ⟨B7, 0, none⟩) 1 1] (fun _ _ => trivial) ?_ (by omega) ((CallsIn.inRound l (callsIn_wide.2 HPU.out)).mono ?_)
              · rw [Oper.semAt_plain _ _ _ (by intro c h; cases h)]
                simp [execOp, q39, q43, go_sem]
              · rintro e w5 ⟨rfl, hst⟩
                exact ⟨_, rfl, rfl, (HJ0.out _ _ _).2 (.inr (.inr ⟨by rw [getD_set _ _ _ _ (by rw [hsz]; decide), if_neg (by decide)]; exact q9, by rw [getD_set _ _ _ _ (by rw [hsz]; decide), if_pos rfl], hst⟩))⟩
            · rw [hu] at q; cases q
        · intro listed W5 hl hJ
          have hst5 : StTo A3 base M sv pv (wl ++ [(x.1, clT (tokAt L x.1))]) P mb es W5 := by
            have h9 := hl 6 (by decide)
            have h10 := hl 7 (by decide)
            rcases (HJ0.out _ _ _).1 hJ with ⟨q, _, _⟩ | ⟨_, q, _⟩ | ⟨_, _, q⟩
            · rw [h9] at q; cases q
            · rw [h10] at q; cases q
            · exact q
          obtain ⟨p1, _⟩ := HPS.out _ hst5
          obtain ⟨sv', q1, q2, q3⟩ := hst5
          clear hJ hl HC HJ0
          gi_wp2
          have hz5 := q2.size
          have hz6 := HZ4.out
          have hbb : Below base A3 W5 := HM4.out.chg_below q2 (by have := HB3.out.size; omega)
          have hba : Below base w A3 := HB3.out.trans (HA3.out.mono (by have := HB3.out.size; omega))
          refine ⟨((HK3.out.trans (Kept.below HA3.out)).from _ (by omega)).trans (HM4.out.keeps q2 _), (HBK.out.trans (HA3.out.mono (by have := HB3.out.size; omega))).trans hbb, ⟨sv', _, _, q1, fun k e e2 => ?_, m6, fun y hy => ?_, by rw [List.length_append, List.length_append]; simp; omega, ord_some hn m9 (by unfold stepM; rw [if_pos HO.out])⟩, p1, by omega, hba.trans hbb⟩
          · rcases q3 k e with q | q
            · exact m2 k q e2
            · omega
          · rcases List.mem_append.1 hy with q | q
            · exact m7 y q
            · rw [List.mem_singleton.1 q]; exact x.2
      · have HV := Lib.hid hV
        have hC2 := hC
        simp only [isC, Bool.and_eq_true, Bool.or_eq_true, decide_eq_true_eq] at hC2
        obtain rfl : kd = 8 := HKD.out.trans hC2.1
        have hgv : (G.toList == C2.toList) = true := by rw [HGL.out, hV]; simp
        have HO := Lib.hid hO
        have HCl := Lib.hid hC
        obtain ⟨T0, T1, T2, T3, b, htop, heq, hcs⟩ := top_gen (HM3.out.below (Below.refl W'.heap.size W').drew) (by omega) (tokAt L x.1) hO hC x.1
        rw [← HGL.out] at heq
        have HTOP := Lib.hid htop
        have HCS := Lib.hid hcs
        have f0 : ∀ w : World, (Instr.field 71 (.agg #[.int .i64 T0, .int .i64 T1, .string T2, .string T3]) 1).run Tryd.prog w = .ok (.agg #[.int .i64 T1, .string T2, .string T3]) w := fun _ => by kernel_rfl
        have hbd : b = decide ((8 : Int) = T1 ∧ T2.toList = [] ∧ G.toList = T3.toList) := by
          rw [← heq]
          have e : ByteArray.toList ⟨#[]⟩ = [] := by rw [ByteArray.toList_eq]
          rw [e, show ((([] : List UInt8) == T2.toList)) = (T2.toList == []) from BEq.comm]
          by_cases z1 : (8 : Int) = T1 <;> by_cases z2 : T2.toList = [] <;> by_cases z3 : G.toList = T3.toList <;> simp [z1, z2, z3]
        have HBD := Lib.hid hbd
        have HXC := Lib.hid (And.intro e2 (And.intro e3 (And.intro e4 e0)))
        have HX8 := Lib.hid HX3.out
        obtain ⟨J0, hJ0⟩ : ∃ J0 : Bool → Bool → World → Prop, J0 = fun b c W5 => (b = false ∧ c = false ∧ W5 = W'.drew) ∨ (b = true ∧ c = true ∧ Below W'.heap.size W' W5) := ⟨_, rfl⟩
        have HJ0 : Hid (∀ b c W5, J0 b c W5 ↔ (b = false ∧ c = false ∧ W5 = W'.drew) ∨ (b = true ∧ c = true ∧ Below W'.heap.size W' W5)) := Lib.hid (fun b c W5 => by rw [hJ0])
        have HC : Hid (∀ b c W5, J0 b c W5 → W5.cell? ⟨h, 0, none⟩ = some (.pointer (some ⟨M, 0, none⟩)) ∧ W5.cell? ⟨Bx, 0, none⟩ = some (.int .i64 8) ∧ W5.cell? ⟨Bx, 1, none⟩ = some (.string ⟨#[]⟩) ∧ W5.cell? ⟨Bx, 2, none⟩ = some (.string G)) := Lib.hid (fun b c W5 hj => by
          have hbw : Below W'.heap.size W' W5 := by
            rcases (HJ0.out _ _ _).1 hj with ⟨_, _, rfl⟩ | ⟨_, _, q⟩
            · exact (Below.refl _ _).drew
            · exact q
          exact ⟨(hbw.cell (p := ⟨h, 0, none⟩) t4).trans e0, (hbw.cell (p := ⟨Bx, 0, none⟩) t6).trans e2, (hbw.cell (p := ⟨Bx, 1, none⟩) t6).trans e3, (hbw.cell (p := ⟨Bx, 2, none⟩) t6).trans e4⟩)
        clear hV hC2 hO hC htop hcs hJ0 heq hbd
        gi_wp2
        clear e0 e2 e3 e4 k2 k3 k4
        refine wpIn_region_shape (by kernel_rfl) (by kernel_rfl) (fun i => [.agg #[Value.int .i64 8, .string ⟨#[]⟩, .string G], .pointer (some ⟨M, 0, none⟩), .pointer (some ⟨M, 0, none⟩), .pointer (some ⟨M, 0, none⟩), .agg #[.int .i64 T0, .int .i64 T1, .string T2, .string T3], .agg #[.int .i64 T1, .string T2, .string T3], .bool b, .bool b].getD i undef) { tmps := #[.pointer (some ⟨M, 0, none⟩), .slice a0 n cap, .pointer (some ⟨h, 0, none⟩), undef, .int .i64 (x.1 : Int), .pointer (some ⟨Bx, 0, none⟩), .pointer (some ⟨B6, 0, none⟩), .bool true, .slice a0 n cap, .func (.func 71) #[] #[.pointer (some ⟨h + 1, 0, none⟩)], .int .i64 (x.1 : Int), .agg #[.int .i64 8, .string U, .string G], .agg #[.int .i64 8, .string U, .string G], .agg #[.int .i64 8, .string ⟨#[]⟩, .string G], .tuple #[.agg #[.int .i64 8, .string ⟨#[]⟩, .string C2], .bool true], Value.pointer (some ⟨M, 0, none⟩), .pointer (some ⟨M, 0, none⟩), .pointer (some ⟨M, 2, none⟩), .map (some mb), .agg #[.int .i64 8, .string ⟨#[]⟩, .string G], .tuple #[.agg #[.int .i64 8, .string ⟨#[]⟩, .string C2], .bool true], .agg #[.int .i64 8, .string ⟨#[]⟩, .string C2], .bool true, undef, undef, undef, undef, undef, undef, undef, .bool false, .bool true, .bool false, .bool false, .agg #[.int .i64 8, .string ⟨#[]⟩, .string G], .agg #[.int .i64 8, .string ⟨#[]⟩, .string C2], .bool false, undef, undef, undef, undef, undef, undef, undef, undef, .bool b, .agg #[Value.int .i64 8, .string ⟨#[]⟩, .string G], .pointer (some ⟨M, 0, none⟩), .pointer (some ⟨M, 0, none⟩), .pointer (some ⟨M, 0, none⟩), .agg #[.int .i64 T0, .int .i64 T1, .string T2, .string T3], .agg #[.int .i64 T1, .string T2, .string T3], .bool b, undef, undef, undef, undef, undef, undef, undef], defers := [] } ?_ (fun listed W5 => J0 (listed.getD 4 false) (listed.getD 4 false) W5) ((HJ0.out _ _ _).2 (.inl ⟨rfl, rfl, rfl⟩)) ?_ ?_
        · kernel_rfl
        · intro i o listed a' w' ho hsz hu haf hS hJ
          have hnx : ∀ i, i < 8 → i ≠ 4 → J0 ((listed.setIfInBounds i true).getD 4 false) ((listed.setIfInBounds i true).getD 4 false) w' := fun i hi h1 => by
            rw [getD_set _ _ _ _ (by rw [hsz]; exact hi), if_neg h1]
            exact hJ
          have hi : i < 8 := (Array.getElem?_eq_some_iff.1 ho).1
          obtain rfl | rfl | rfl | rfl | rfl | rfl | rfl | rfl : i = 0 ∨ i = 1 ∨ i = 2 ∨ i = 3 ∨ i = 4 ∨ i = 5 ∨ i = 6 ∨ i = 7 := by omega
          · cases ho
            have q5 : a'.tmps[5]? = some (.pointer (some ⟨Bx, 0, none⟩)) := (hS.tmpBase 5 (by kernel_rfl)).trans rfl
            obtain ⟨_, k2, k3, k4⟩ := HC.out _ _ _ hJ
            refine op_val (.agg #[Value.int .i64 8, .string ⟨#[]⟩, .string G]) w' (fun _ _ => trivial) ?_ ⟨rfl, hnx 0 (by omega) (by omega)⟩
            rw [Oper.semAt_plain _ _ _ (by intro c h; cases h)]
            simp [execOp, q5, k2, k3, k4, go_sem]
          · cases ho
            have q2 : a'.tmps[2]? = some (.pointer (some ⟨h, 0, none⟩)) := (hS.tmpBase 2 (by kernel_rfl)).trans rfl
            obtain ⟨k0, _, _, _⟩ := HC.out _ _ _ hJ
            refine op_val (.pointer (some ⟨M, 0, none⟩)) w' (fun _ _ => trivial) ?_ ⟨rfl, hnx 1 (by omega) (by omega)⟩
            rw [Oper.semAt_plain _ _ _ (by intro c h; cases h)]
            simp [execOp, q2, k0, go_sem]
          · cases ho
            have q47 : a'.tmps[47]? = some (.pointer (some ⟨M, 0, none⟩)) := hS.tmpSet 1 _ 47 rfl rfl (by simp) (haf ⟨1, .data⟩ (Array.mem_of_getElem? (i := 0) rfl) rfl)
            refine op_val (.pointer (some ⟨M, 0, none⟩)) w' (fun _ _ => trivial) ?_ ⟨rfl, hnx 2 (by omega) (by omega)⟩
            rw [Oper.semAt_plain _ _ _ (by intro c h; cases h)]
            simp [execOp, q47, go_sem]
          · cases ho
            have q48 : a'.tmps[48]? = some (.pointer (some ⟨M, 0, none⟩)) := hS.tmpSet 2 _ 48 rfl rfl (by simp) (haf ⟨2, .data⟩ (Array.mem_of_getElem? (i := 0) rfl) rfl)
            refine op_val (.pointer (some ⟨M, 0, none⟩)) w' (fun _ _ => trivial) ?_ ⟨rfl, hnx 3 (by omega) (by omega)⟩
            rw [Oper.semAt_plain _ _ _ (by intro c h; cases h)]
            simp [execOp, q48, go_sem]
          · cases ho
            have q49 : a'.tmps[49]? = some (.pointer (some ⟨M, 0, none⟩)) := hS.tmpSet 3 _ 49 rfl rfl (by simp) (haf ⟨3, .data⟩ (Array.mem_of_getElem? (i := 0) rfl) rfl)
            rcases (HJ0.out _ _ _).1 hJ with ⟨q, q2, rfl⟩ | ⟨q, _, _⟩
            · refine op_call 41 #[.pointer (some ⟨M, 0, none⟩)] (fun _ _ => trivial) ?_ (by omega) ((CallsIn.inRound l (callsIn_wide.2 HTOP.out)).mono ?_)
              · rw [Oper.semAt_plain _ _ _ (by intro c h; cases h)]
                simp [execOp, q49, go_sem]
              · rintro e w5 ⟨rfl, hst⟩
                exact ⟨_, rfl, rfl, (HJ0.out _ _ _).2 (.inr ⟨by rw [getD_set _ _ _ _ (by rw [hsz]; decide), if_pos rfl], by rw [getD_set _ _ _ _ (by rw [hsz]; decide), if_pos rfl], (Below.refl W'.heap.size W').drew.trans hst⟩)⟩
            · rw [hu] at q; cases q
          · cases ho
            have q50 : a'.tmps[50]? = some (.agg #[.int .i64 T0, .int .i64 T1, .string T2, .string T3]) := hS.tmpSet 4 _ 50 rfl rfl (by simp) (haf ⟨4, .data⟩ (Array.mem_of_getElem? (i := 0) rfl) rfl)
            refine op_val (.agg #[.int .i64 T1, .string T2, .string T3]) w' (fun _ _ => trivial) ?_ ⟨rfl, hnx 5 (by omega) (by omega)⟩
            rw [Oper.semAt_plain _ _ _ (by intro c h; cases h)]
            simp [execOp, q50, f0, go_sem]
          · cases ho
            have q46 : a'.tmps[46]? = some (.agg #[Value.int .i64 8, .string ⟨#[]⟩, .string G]) := hS.tmpSet 0 _ 46 rfl rfl (by simp) (haf ⟨0, .data⟩ (Array.mem_of_getElem? (i := 0) rfl) rfl)
            have q51 : a'.tmps[51]? = some (.agg #[.int .i64 T1, .string T2, .string T3]) := hS.tmpSet 5 _ 51 rfl rfl (by simp) (haf ⟨5, .data⟩ (Array.mem_of_getElem? (i := 1) rfl) rfl)
            refine op_val (.bool b) w' (fun _ _ => trivial) ?_ ⟨rfl, hnx 6 (by omega) (by omega)⟩
            rw [Oper.semAt_plain _ _ _ (by intro c h; cases h), HBD.out]
            by_cases z1 : (8 : Int) = T1 <;> by_cases z2 : T2.toList = [] <;> by_cases z3 : G.toList = T3.toList <;> simp [execOp, q46, q51, go_sem, z1, z2, z3]
          · cases ho
            have q52 : a'.tmps[52]? = some (.bool b) := hS.tmpSet 6 _ 52 rfl rfl (by simp) (haf ⟨6, .data⟩ (Array.mem_of_getElem? (i := 0) rfl) rfl)
            refine op_val (.bool b) w' (fun _ _ => trivial) ?_ ⟨rfl, hnx 7 (by omega) (by omega)⟩
            rw [Oper.semAt_plain _ _ _ (by intro c h; cases h)]
            simp [execOp, q52, go_sem]
        · intro listed W5 hl hJ
          have hb5 : Below W'.heap.size W' W5 := by
            have h9 := hl 4 (by decide)
            rcases (HJ0.out _ _ _).1 hJ with ⟨q, _, _⟩ | ⟨_, _, q⟩
            · rw [h9] at q; cases q
            · exact q
          have hM5 := HM3.out.below hb5
          have h35 := H33.out.below hb5 t4
          have hz5 := hb5.size
          have HM5 := Lib.hid hM5
          have H35 := Lib.hid h35
          have HB5 := Lib.hid hb5
          have u0 := h35.cell 0
          simp only [List.getElem?_toArray, List.getElem?_cons_zero] at u0
          have u4 := h35.lt
          clear hJ hl HC HJ0 hM5 h35 hb5 f0
          rcases HCS.out with ⟨rfl, hst⟩ | ⟨rfl, wl0, aa, cc, rfl, rfl, hst⟩
          · have HST := Lib.hid hst
            clear hst
            have HPU : Hid (Calls Tryd.prog 57 #[.pointer (some ⟨M, 0, none⟩), .slice (some ⟨W5.heap.size, 0, none⟩) 1 1] (W5.alloc (.cells #[.int .i64 (x.1 : Int), .int .i64 0, .string ⟨#[]⟩, .string ⟨#[]⟩] 71)) fun e W6 => e = .returned (.tuple #[]) ∧ StTo (W5.alloc (.cells #[.int .i64 (x.1 : Int), .int .i64 0, .string ⟨#[]⟩, .string ⟨#[]⟩] 71)) base M sv pv (wl ++ [(x.1, zT)]) P mb es W6) := Lib.hid (push_c _ base M W5.heap.size sv pv wl (x.1, zT) P mb es (HM5.out.alloc _) (by omega) (by rw [World.size_alloc]; have := HB3.out.size; omega) (fun i hi => by
              rw [(Row.new W5 71 #[.int .i64 (x.1 : Int), .int .i64 0, .string ⟨#[]⟩, .string ⟨#[]⟩]).cell i]
              simp [wcell, zT, Rs.bs_nil]))
            gi_wp2_with (refine ⟨trivial, ?_⟩; gi_at_call 57; refine (CallsIn.inRound l (callsIn_wide.2 HPU.out)).mono ?_; rintro e W6 ⟨rfl, hst6⟩; have HST6 := Lib.hid hst6; clear hst6)
            gi_wp2
            obtain ⟨sv', q1, q2, q3⟩ := HST6.out
            have hMa := HM5.out.alloc (.cells #[.int .i64 (x.1 : Int), .int .i64 0, .string ⟨#[]⟩, .string ⟨#[]⟩] 71)
            have hba : Below W'.heap.size W' (W5.alloc (.cells #[.int .i64 (x.1 : Int), .int .i64 0, .string ⟨#[]⟩, .string ⟨#[]⟩] 71)) := HB5.out.alloc hz5 _
            have hzz := q2.size
            rw [World.size_alloc] at hzz
            have hbb := hMa.chg_below q2 (by rw [World.size_alloc]; have := HB3.out.size; omega)
            refine ⟨((HK3.out.trans (Kept.below hba)).from _ (by rw [World.size_alloc]; omega)).trans (hMa.keeps q2 _), rfl, ⟨sv', wl, P, x.1, q1, by omega, ord_none hn m9 HST.out⟩, by omega, (HB3.out.trans (hba.mono (by have := HB3.out.size; omega))).trans hbb⟩
          · have HST := Lib.hid hst
            clear hst
            have hcl : aa < n := m7 (aa, cc) (by simp)
            have hwl : wl0.length + 1 ≤ pre.length := by simpa using m8
            have hpst : ∀ W6 W7 P' sv7, Mt W6 base M sv7 pv wl0 P' mb es → (∀ k, sv7.ownBlock = some k → k ≠ h) → Row W6 h 88 #[.pointer (some ⟨M, 0, none⟩)] → Chg M sv7 pv W6 W7 → Row W7 h 88 #[.pointer (some ⟨M, 0, none⟩)] := fun W6 W7 P' sv7 g1 g2 g3 g4 =>
              (g4.block h g3.lt (by omega) (fun e => g2 h e rfl) (fun e => by have := hpn h e; omega)).trans g3
            have HPST := Lib.hid hpst
            obtain ⟨A6, hA6⟩ : ∃ A, A = W5.drew := ⟨_, rfl⟩
            have hb6 : Below W5.heap.size W5 A6 := by rw [hA6]; exact (Below.refl _ _).drew
            have hM6 := HM5.out.below hb6
            have h36 := H35.out.below hb6 u4
            have HM6 := Lib.hid hM6
            have H36 := Lib.hid h36
            have HB6 := Lib.hid hb6
            have hz6 : A6.heap.size = W5.heap.size := by rw [hA6]; rfl
            have HPOP := Lib.hid (pop_c A6 base M sv pv wl0 (aa, cc) P mb es hM6 (by omega))
            obtain ⟨J0, hJ0⟩ : ∃ J0 : Bool → Bool → World → Prop, J0 = fun b c W6 => (b = false ∧ c = false ∧ W6 = A6) ∨ (b = true ∧ c = false ∧ StTo A6 base M sv pv wl0 P mb es W6) ∨ (b = true ∧ c = true ∧ StTo A6 base M sv pv wl0 ((P.set aa (x.1 : Int)).set x.1 (aa : Int)) mb es W6) := ⟨_, rfl⟩
            have HJ0 : Hid (∀ b c W6, J0 b c W6 ↔ (b = false ∧ c = false ∧ W6 = A6) ∨ (b = true ∧ c = false ∧ StTo A6 base M sv pv wl0 P mb es W6) ∨ (b = true ∧ c = true ∧ StTo A6 base M sv pv wl0 ((P.set aa (x.1 : Int)).set x.1 (aa : Int)) mb es W6)) := Lib.hid (fun b c W6 => by rw [hJ0])
            have hrow : ∀ P' W6, StTo A6 base M sv pv wl0 P' mb es W6 → Row W6 h 88 #[.pointer (some ⟨M, 0, none⟩)] := fun P' W6 ⟨sv6, g1, g2, g3⟩ =>
              (g2.block h H36.out.lt (by omega) (fun e => m2 h e rfl) (fun e => by have := hpn h e; omega)).trans H36.out
            have HROW := Lib.hid hrow
            have HC : Hid (∀ b c W6, J0 b c W6 → W6.cell? ⟨h, 0, none⟩ = some (.pointer (some ⟨M, 0, none⟩))) := Lib.hid (fun b c W6 hj => by
              rcases (HJ0.out _ _ _).1 hj with ⟨_, _, rfl⟩ | ⟨_, _, q⟩ | ⟨_, _, q⟩
              · exact H36.out.cell 0
              · exact (HROW.out _ _ q).cell 0
              · exact (HROW.out _ _ q).cell 0)
            clear hpst hb6 hM6 h36 hJ0 hrow
            gi_wp2
            clear u0
            refine wpIn_region_shape (by kernel_rfl) (by kernel_rfl) (fun i => [Value.pointer (some ⟨M, 0, none⟩), .pointer (some ⟨M, 0, none⟩), .pointer (some ⟨M, 0, none⟩), .pointer (some ⟨M, 0, none⟩), .int .i64 (aa : Int), .int .i64 (x.1 : Int), .tuple #[]].getD i undef) { tmps := #[.pointer (some ⟨M, 0, none⟩), .slice a0 n cap, .pointer (some ⟨h, 0, none⟩), undef, .int .i64 (x.1 : Int), .pointer (some ⟨Bx, 0, none⟩), .pointer (some ⟨B6, 0, none⟩), .bool true, .slice a0 n cap, .func (.func 71) #[] #[.pointer (some ⟨h + 1, 0, none⟩)], .int .i64 (x.1 : Int), .agg #[.int .i64 8, .string U, .string G], .agg #[.int .i64 8, .string U, .string G], .agg #[.int .i64 8, .string ⟨#[]⟩, .string G], .tuple #[.agg #[.int .i64 8, .string ⟨#[]⟩, .string C2], .bool true], Value.pointer (some ⟨M, 0, none⟩), .pointer (some ⟨M, 0, none⟩), .pointer (some ⟨M, 2, none⟩), .map (some mb), .agg #[.int .i64 8, .string ⟨#[]⟩, .string G], .tuple #[.agg #[.int .i64 8, .string ⟨#[]⟩, .string C2], .bool true], .agg #[.int .i64 8, .string ⟨#[]⟩, .string C2], .bool true, undef, undef, undef, undef, undef, undef, undef, .bool false, .bool true, .bool false, .bool false, .agg #[.int .i64 8, .string ⟨#[]⟩, .string G], .agg #[.int .i64 8, .string ⟨#[]⟩, .string C2], .bool false, undef, undef, undef, undef, undef, undef, undef, undef, .bool true, .agg #[Value.int .i64 8, .string ⟨#[]⟩, .string G], .pointer (some ⟨M, 0, none⟩), .pointer (some ⟨M, 0, none⟩), .pointer (some ⟨M, 0, none⟩), .agg #[.int .i64 (aa : Int), .int .i64 T1, .string T2, .string T3], .agg #[.int .i64 T1, .string T2, .string T3], .bool true, Value.pointer (some ⟨M, 0, none⟩), .pointer (some ⟨M, 0, none⟩), .pointer (some ⟨M, 0, none⟩), .pointer (some ⟨M, 0, none⟩), .int .i64 (aa : Int), .int .i64 (x.1 : Int), .tuple #[]], defers := [] } ?_ (fun listed W6 => J0 (listed.getD 4 false) (listed.getD 6 false) W6) ((HJ0.out _ _ _).2 (.inl ⟨rfl, rfl, hA6.symm⟩)) ?_ ?_
            · kernel_rfl
            · intro i o listed a' w' ho hsz hu haf hS hJ
              have hnx : ∀ i, i < 7 → i ≠ 4 → i ≠ 6 → J0 ((listed.setIfInBounds i true).getD 4 false) ((listed.setIfInBounds i true).getD 6 false) w' := fun i hi h1 h2 => by
                rw [getD_set _ _ _ _ (by rw [hsz]; exact hi), getD_set _ _ _ _ (by rw [hsz]; exact hi), if_neg h1, if_neg h2]
                exact hJ
              have hi : i < 7 := (Array.getElem?_eq_some_iff.1 ho).1
              obtain rfl | rfl | rfl | rfl | rfl | rfl | rfl : i = 0 ∨ i = 1 ∨ i = 2 ∨ i = 3 ∨ i = 4 ∨ i = 5 ∨ i = 6 := by omega
              · cases ho
                have q2 : a'.tmps[2]? = some (.pointer (some ⟨h, 0, none⟩)) := (hS.tmpBase 2 (by kernel_rfl)).trans rfl
                have k0 := HC.out _ _ _ hJ
                refine op_val (Value.pointer (some ⟨M, 0, none⟩)) w' (fun _ _ => trivial) ?_ ⟨rfl, hnx 0 (by omega) (by omega) (by omega)⟩
                rw [Oper.semAt_plain _ _ _ (by intro c h; cases h)]
                simp [execOp, q2, k0, go_sem]
              · cases ho
                have q2 : a'.tmps[2]? = some (.pointer (some ⟨h, 0, none⟩)) := (hS.tmpBase 2 (by kernel_rfl)).trans rfl
                have k0 := HC.out _ _ _ hJ
                refine op_val (.pointer (some ⟨M, 0, none⟩)) w' (fun _ _ => trivial) ?_ ⟨rfl, hnx 1 (by omega) (by omega) (by omega)⟩
                rw [Oper.semAt_plain _ _ _ (by intro c h; cases h)]
                simp [execOp, q2, k0, go_sem]
              · cases ho
                have q54 : a'.tmps[54]? = some (.pointer (some ⟨M, 0, none⟩)) := hS.tmpSet 1 _ 54 rfl rfl (by simp) (haf ⟨1, .data⟩ (Array.mem_of_getElem? (i := 0) rfl) rfl)
                refine op_val (.pointer (some ⟨M, 0, none⟩)) w' (fun _ _ => trivial) ?_ ⟨rfl, hnx 2 (by omega) (by omega) (by omega)⟩
                rw [Oper.semAt_plain _ _ _ (by intro c h; cases h)]
                simp [execOp, q54, go_sem]
              · cases ho
                have q55 : a'.tmps[55]? = some (.pointer (some ⟨M, 0, none⟩)) := hS.tmpSet 2 _ 55 rfl rfl (by simp) (haf ⟨2, .data⟩ (Array.mem_of_getElem? (i := 0) rfl) rfl)
                refine op_val (.pointer (some ⟨M, 0, none⟩)) w' (fun _ _ => trivial) ?_ ⟨rfl, hnx 3 (by omega) (by omega) (by omega)⟩
                rw [Oper.semAt_plain _ _ _ (by intro c h; cases h)]
                simp [execOp, q55, go_sem]
              · cases ho
                have q56 : a'.tmps[56]? = some (.pointer (some ⟨M, 0, none⟩)) := hS.tmpSet 3 _ 56 rfl rfl (by simp) (haf ⟨3, .data⟩ (Array.mem_of_getElem? (i := 0) rfl) rfl)
                rcases (HJ0.out _ _ _).1 hJ with ⟨q, q2, rfl⟩ | ⟨q, _, _⟩ | ⟨q, _, _⟩
                · refine op_call 59 #[.pointer (some ⟨M, 0, none⟩)] (fun _ _ => trivial) ?_ (by omega) ((CallsIn.inRound l (callsIn_wide.2 HPOP.out)).mono ?_)
                  · rw [Oper.semAt_plain _ _ _ (by intro c h; cases h)]
                    simp [execOp, q56, go_sem]
                  · rintro e w5 ⟨rfl, hst⟩
                    exact ⟨_, rfl, rfl, (HJ0.out _ _ _).2 (.inr (.inl ⟨by rw [getD_set _ _ _ _ (by rw [hsz]; decide), if_pos rfl], by rw [getD_set _ _ _ _ (by rw [hsz]; decide), if_neg (by decide)]; exact q2, hst⟩))⟩
                · rw [hu] at q; cases q
                · rw [hu] at q; cases q
              · cases ho
                have q4 : a'.tmps[4]? = some (.int .i64 (x.1 : Int)) := (hS.tmpBase 4 (by kernel_rfl)).trans rfl
                refine op_val (.int .i64 (x.1 : Int)) w' (fun _ _ => trivial) ?_ ⟨rfl, hnx 5 (by omega) (by omega) (by omega)⟩
                rw [Oper.semAt_plain _ _ _ (by intro c h; cases h)]
                simp [execOp, q4, go_sem]
              · cases ho
                have q53 : a'.tmps[53]? = some (Value.pointer (some ⟨M, 0, none⟩)) := hS.tmpSet 0 _ 53 rfl rfl (by simp) (haf ⟨0, .data⟩ (Array.mem_of_getElem? (i := 0) rfl) rfl)
                have q57 : a'.tmps[57]? = some (.int .i64 (aa : Int)) := hS.tmpSet 4 _ 57 rfl rfl (by simp) (haf ⟨4, .data⟩ (Array.mem_of_getElem? (i := 1) rfl) rfl)
                have q58 : a'.tmps[58]? = some (.int .i64 (x.1 : Int)) := hS.tmpSet 5 _ 58 rfl rfl (by simp) (haf ⟨5, .data⟩ (Array.mem_of_getElem? (i := 2) rfl) rfl)
                have q9 : listed.getD 4 false = true := haf ⟨4, .data⟩ (Array.mem_of_getElem? (i := 1) rfl) rfl
                rcases (HJ0.out _ _ _).1 hJ with ⟨q, _, _⟩ | ⟨_, _, sv6, p1, p2, p3⟩ | ⟨_, q, _⟩
                · rw [q9] at q; cases q
                · refine op_call 58 #[.pointer (some ⟨M, 0, none⟩), .int .i64 (aa : Int), .int .i64 (x.1 : Int)] (fun _ _ => trivial) ?_ (by omega) ((CallsIn.inRound l (callsIn_wide.2 (join_c w' base M aa x.1 sv6 pv wl0 P mb es p1 (by rw [m6]; exact hcl) (by rw [m6]; exact x.2) (by omega)))).mono ?_)
                  · rw [Oper.semAt_plain _ _ _ (by intro c h; cases h)]
                    simp [execOp, q53, q57, q58, go_sem]
                  · rintro e w5 ⟨rfl, j1, j2⟩
                    exact ⟨_, rfl, rfl, (HJ0.out _ _ _).2 (.inr (.inr ⟨by rw [getD_set _ _ _ _ (by rw [hsz]; decide), if_neg (by decide)]; exact q9, by rw [getD_set _ _ _ _ (by rw [hsz]; decide), if_pos rfl], sv6, j1, p2.trans j2 p3 (fun k e => .inl e), p3⟩))⟩
                · rw [hu] at q; cases q
            · intro listed W6 hl hJ
              have hst6 : StTo A6 base M sv pv wl0 ((P.set aa (x.1 : Int)).set x.1 (aa : Int)) mb es W6 := by
                have h9 := hl 4 (by decide)
                have h10 := hl 6 (by decide)
                rcases (HJ0.out _ _ _).1 hJ with ⟨q, _, _⟩ | ⟨_, q, _⟩ | ⟨_, _, q⟩
                · rw [h9] at q; cases q
                · rw [h10] at q; cases q
                · exact q
              have p1 := HROW.out _ _ hst6
              obtain ⟨sv', q1, q2, q3⟩ := hst6
              clear hJ hl HC HJ0
              gi_wp2
              have hzz := q2.size
              have hba : Below W'.heap.size W' A6 := HB5.out.trans (HB6.out.mono hz5)
              have hbb := HM6.out.chg_below q2 (by have := HB3.out.size; omega)
              refine ⟨((HK3.out.trans (Kept.below hba)).from _ (by omega)).trans (HM6.out.keeps q2 _), (HBK.out.trans (hba.mono (by have := HB3.out.size; omega))).trans hbb, ⟨sv', wl0, _, q1, fun k e e2 => ?_, by rw [List.length_set, List.length_set]; exact m6, fun y hy => m7 y (List.mem_append_left _ hy), by rw [List.length_append]; omega, ord_some hn m9 HST.out⟩, p1, by omega, (HB3.out.trans (hba.mono (by have := HB3.out.size; omega))).trans hbb⟩
              rcases q3 k e with q | q
              · exact m2 k q e2
              · omega
      · have HO := Lib.hid hO
        have HCl := Lib.hid hC
        clear hO hC
        gi_wp2
        have hz5 := HB3.out.size
        refine ⟨HK3.out.from _ hz3, HBK.out, ⟨sv, wl, P, HM3.out, m2, m6, m7, by rw [List.length_append]; omega, ord_some hn m9 (by unfold stepM; rw [if_neg (by rw [HO.out]; decide), if_neg (by rw [HCl.out]; decide)])⟩, H33.out, by omega, HB3.out⟩
  case done =>
    rintro D xs W hD hxs ⟨⟨sv, wl, P, m1, m2, m6, m7, m8, m9⟩, m3, m4, m5⟩ hKD
    have hin : InOrder xs ∧ xs.length = n := inOrder_of hxs
    obtain ⟨s, q1, q2, q3⟩ := m9 hin.1
    rw [hin.2] at q1
    have HM := Lib.hid (m1.still (Still.drop (d' := none) hKD))
    have HB := Lib.hid (below_drop (d' := none) m5 (by omega) hKD)
    have HQ : Hid (MEnd L n wl P) := Lib.hid (by unfold MEnd; rw [q1]; exact ⟨q2, q3⟩)
    clear m1 m9 m3 m5 hin q1 q2 q3
    refine ⟨by simp, .inl ⟨_, _, rfl, run_takeDeferred hKD, ?_⟩⟩
    refine ⟨_, results_none rfl _ _ _, ⟨_, rfl⟩, sv, wl, P, HM.out, HB.out, HQ.out⟩
  case stop =>
    rintro D c pre W hD ⟨k, hk, hpre⟩ ⟨rfl, ⟨sv, wl, P, a, m1, m8, m9⟩, m4, m5⟩ hKD
    have hin : InOrder pre ∧ pre.length = k := inOrder_of hpre
    have q1 := m9 hin.1
    have q2 : stAt L n = none := by
      have := stAt_none q1 (n - pre.length)
      rwa [Nat.add_sub_cancel' (by omega)] at this
    have HM := Lib.hid (m1.still (Still.drop (d' := none) hKD))
    have HB := Lib.hid (below_drop (d' := none) m5 (by omega) hKD)
    have HQ : Hid (MEnd L n (wl ++ [(a, zT)]) P) := Lib.hid (by unfold MEnd; rw [q2]; exact ⟨_, _, rfl, m8⟩)
    clear m1 m9 m5 hin q1 q2
    gi_wp2
    refine ⟨by simp, .inl ⟨_, _, rfl, run_takeDeferred hKD, ?_⟩⟩
    refine ⟨_, results_none rfl _ _ _, ⟨_, rfl⟩, sv, wl ++ [(a, zT)], P, HM.out, HB.out, HQ.out⟩
end Go.Proofs.YthbiflmmlcmncaaDoor.Ti
