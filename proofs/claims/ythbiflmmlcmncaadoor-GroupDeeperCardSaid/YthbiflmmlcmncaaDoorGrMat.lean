/- The matcher in memory: what waits, the partners, what closes what. -/
import Derived.Test.YthbiflmmlcmncaaDoorGyB
import Derived.Test.YthbiflmmlcmncaaDoorGyC
import Derived.BigRegion
import Derived.Deep.RegionHeldLaw
namespace Go.Proofs.YthbiflmmlcmncaaDoor.Ti
open Go Go.RowKit Go.Shelf
attribute [local go_sem] Oper.semAt_some

/-- One that waits: its place, what would close it. -/
abbrev Wt : Type := Nat × Tk
def wcell (x : Wt) : List Value := [.int .i64 (x.1 : Int), .int .i64 x.2.kind, .string (bs x.2.text), .string (bs x.2.glyph)]
def wcells (l : List Wt) : List Value := l.flatMap wcell
theorem wcells_len : ∀ l : List Wt, (wcells l).length = l.length * 4
  | [] => rfl
  | x :: l => by
    show (wcell x ++ wcells l).length = _
    rw [List.length_append, wcells_len l]
    simp [wcell]
    omega
theorem wcells_snoc (l : List Wt) (x : Wt) : wcells (l ++ [x]) = wcells l ++ wcell x := by simp [wcells]
theorem wcells_last (l : List Wt) (x : Wt) (i : Nat) : (wcells (l ++ [x]))[l.length * 4 + i]? = (wcell x)[i]? := by
  rw [wcells_snoc, List.getElem?_append_right (by rw [wcells_len]; omega), wcells_len, Nat.add_sub_cancel_left]
theorem wcell_one (x : Wt) : ∀ u ∈ wcell x, u.oneCell' = true := by
  intro u hu
  simp [wcell] at hu
  rcases hu with rfl | rfl | rfl | rfl <;> rfl
theorem infoW : ∃ i, Tryd.prog.info? 71 = some i ∧ i.zero = some (.agg #[.int .i64 0, .int .i64 0, .string ⟨#[]⟩, .string ⟨#[]⟩]) ∧ i.size = 4 ∧ i.bytes = 48 :=
  info_parts (show (Tryd.prog.info? 71).map (fun i => (i.zero, i.size, i.bytes)) = some (some (.agg #[.int .i64 0, .int .i64 0, .string ⟨#[]⟩, .string ⟨#[]⟩]), 4, 48) by kernel_rfl)

/-- THE MATCHER LIES at M. -/
structure Mt (W : World) (base M : Nat) (sv pv : Value) (wl : List Wt) (P : List Int) (mb : Nat) (es : List Nat) : Prop where
  row : Row W M 68 #[sv, pv, .map (some mb)]
  st : W.ownsRow base 71 4 sv wl.length (wcells wl)
  pr : IOwn W base pv P
  mp : MapAt W mb es
  all : ∀ j, j ∈ es ↔ j < 4
  lo : base ≤ M
  ne1 : sv.ownBlock ≠ some M
  ne2 : pv.ownBlock ≠ some M
  ne3 : ∀ k, sv.ownBlock = some k → pv.ownBlock ≠ some k
theorem Mt.below {W W' : World} {base M : Nat} {sv pv : Value} {wl : List Wt} {P : List Int} {mb : Nat} {es : List Nat} (h : Mt W base M sv pv wl P mb es) (hb : Below W.heap.size W W') : Mt W' base M sv pv wl P mb es :=
  ⟨h.row.below hb h.row.lt, own_kept h.st hb, own_kept h.pr hb, h.mp.below hb, h.all, h.lo, h.ne1, h.ne2, h.ne3⟩
theorem Mt.alloc {W : World} {base M : Nat} {sv pv : Value} {wl : List Wt} {P : List Int} {mb : Nat} {es : List Nat} (h : Mt W base M sv pv wl P mb es) (o : Obj) : Mt (W.alloc o) base M sv pv wl P mb es := h.below ((Below.refl _ W).alloc (Nat.le_refl _) o)
/-- What a call changes: the matcher, what waits, the partners; no more. -/
structure Chg (M : Nat) (sv pv : Value) (W W' : World) : Prop where
  os : W'.os = W.os
  tape : W'.tape = W.tape
  output : W'.output = W.output
  size : W.heap.size ≤ W'.heap.size
  block : ∀ k, k < W.heap.size → k ≠ M → sv.ownBlock ≠ some k → pv.ownBlock ≠ some k → W'.heap[k]? = W.heap[k]?
theorem Chg.of {M n : Nat} {sv pv : Value} {W W' : World} (h : Below n W W') (hn : W.heap.size ≤ n) : Chg M sv pv W W' := ⟨h.os, h.tape, h.output, h.size, fun k hk _ _ _ => h.block k (by omega)⟩
/-- Of one block, or of a new one. -/
def Near (W : World) (v v' : Value) : Prop := ∀ k, v'.ownBlock = some k → v.ownBlock = some k ∨ W.heap.size ≤ k
theorem Near.refl (W : World) (v : Value) : Near W v v := fun _ h => .inl h
theorem Chg.trans {M : Nat} {sv pv sv' pv' : Value} {X Y Z : World} (h : Chg M sv pv X Y) (k : Chg M sv' pv' Y Z) (hs : Near X sv sv') (hp : Near X pv pv') : Chg M sv pv X Z :=
  ⟨k.os.trans h.os, k.tape.trans h.tape, k.output.trans h.output, Nat.le_trans h.size k.size, fun q hq h1 h2 h3 =>
    (k.block q (Nat.lt_of_lt_of_le hq h.size) h1 (fun e => by rcases hs q e with e2 | e2; exact h2 e2; omega) (fun e => by rcases hp q e with e2 | e2; exact h3 e2; omega)).trans (h.block q hq h1 h2 h3)⟩
theorem Near.trans {X Y : World} {a b c : Value} (h : Near X a b) (k : Near Y b c) (hs : X.heap.size ≤ Y.heap.size) : Near X a c := fun q e => by
  rcases k q e with e2 | e2
  · exact h q e2
  · exact .inr (by omega)
theorem Chg.below {M base n : Nat} {sv pv : Value} {W W' : World} (h : Chg M sv pv W W') (hn : n ≤ W.heap.size) (hM : n ≤ M) (hs : ∀ k, sv.ownBlock = some k → n ≤ k) (hp : ∀ k, pv.ownBlock = some k → n ≤ k) (_ : base ≤ n) : Below n W W' :=
  ⟨h.os, h.tape, h.output, h.size, fun k hk => h.block k (by omega) (by omega) (fun e => by have := hs k e; omega) (fun e => by have := hp k e; omega)⟩

set_option maxRecDepth 100000 in
set_option maxHeartbeats 1000000 in
theorem top_nil (W : World) (base M : Nat) (sv pv : Value) (P : List Int) (mb : Nat) (es : List Nat) (h : Mt W base M sv pv [] P mb es) :
    Calls Tryd.prog 41 #[.pointer (some ⟨M, 0, none⟩)] W fun e W' => e = .returned (.agg #[.int .i64 (-1), .int .i64 0, .string ⟨#[]⟩, .string ⟨#[]⟩]) ∧ Below W.heap.size W W' := by
  obtain ⟨a, c, rfl⟩ := own_form h.st
  have c0 := h.row.cell 0
  simp at c0
  have hml := h.row.lt
  have c1 : ∀ o, (W.alloc o).cell? ⟨M, 0, none⟩ = some (.slice a 0 c) := fun o => by rw [((h.row.alloc o).cell 0)]; rfl
  have c2 := c1 (.cells #[.int .i64 0, .int .i64 0, .string ⟨#[]⟩, .string ⟨#[]⟩] 71)
  clear c1 h
  go_enter Tryd.func41, Tryd.ntmps41
  go_wp2
  refine bodyPost_ret (v := .agg #[.int .i64 (-1), .int .i64 0, .string ⟨#[]⟩, .string ⟨#[]⟩]) (by simp [results, Tryd.f41, go_sem]) rfl ⟨rfl, (Below.refl _ W).alloc (Nat.le_refl _) _⟩

set_option maxRecDepth 100000 in
set_option maxHeartbeats 1000000 in
theorem top_some (W : World) (base M : Nat) (sv pv : Value) (wl : List Wt) (x : Wt) (P : List Int) (mb : Nat) (es : List Nat) (h : Mt W base M sv pv (wl ++ [x]) P mb es) (hl : wl.length ≤ 1000) :
    Calls Tryd.prog 41 #[.pointer (some ⟨M, 0, none⟩)] W fun e W' => e = .returned (.agg #[.int .i64 (x.1 : Int), .int .i64 x.2.kind, .string (bs x.2.text), .string (bs x.2.glyph)]) ∧ Below W.heap.size W W' := by
  have hst := h.st
  obtain ⟨g, cap, rfl, hg1, hg2⟩ := hst.form (by simp)
  obtain ⟨n, hn⟩ : ∃ n, n = wl.length := ⟨_, rfl⟩
  have hlen : (wl ++ [x]).length = n + 1 := by simp [hn]
  rw [hlen] at hst
  obtain ⟨k0, hk0⟩ : ∃ k : Int, k = (x.1 : Int) := ⟨_, rfl⟩
  obtain ⟨k1, hk1⟩ : ∃ k : Int, k = x.2.kind := ⟨_, rfl⟩
  obtain ⟨k2, hk2⟩ : ∃ k, k = bs x.2.text := ⟨_, rfl⟩
  obtain ⟨k3, hk3⟩ : ∃ k, k = bs x.2.glyph := ⟨_, rfl⟩
  have hw : wcell x = [.int .i64 k0, .int .i64 k1, .string k2, .string k3] := by rw [hk0, hk1, hk2, hk3]; rfl
  have hc : ∀ o i, i < 4 → (W.alloc o).cell? ⟨g, n * 4 + i, none⟩ = (wcell x)[i]? := fun o i hi => by
    rw [(hst.alloc o).cellAt (n * 4 + i) (by omega), hn, wcells_last]
  have z : ∀ o, (W.alloc o).cell? ⟨M, 0, none⟩ = some (.slice (some ⟨g, 0, none⟩) (n + 1) cap) := fun o => by rw [(h.row.alloc o).cell 0, hlen]; rfl
  have z0 := z (.cells #[.int .i64 0, .int .i64 0, .string ⟨#[]⟩, .string ⟨#[]⟩] 71)
  have c0 := hc (.cells #[.int .i64 0, .int .i64 0, .string ⟨#[]⟩, .string ⟨#[]⟩] 71) 0 (by omega)
  have c1 := hc (.cells #[.int .i64 0, .int .i64 0, .string ⟨#[]⟩, .string ⟨#[]⟩] 71) 1 (by omega)
  have c2 := hc (.cells #[.int .i64 0, .int .i64 0, .string ⟨#[]⟩, .string ⟨#[]⟩] 71) 2 (by omega)
  have c3 := hc (.cells #[.int .i64 0, .int .i64 0, .string ⟨#[]⟩, .string ⟨#[]⟩] 71) 3 (by omega)
  rw [hw] at c0 c1 c2 c3
  simp at c0 c1 c2 c3
  rw [← hk0, ← hk1, ← hk2, ← hk3]
  have hn1 : n ≤ 1000 := by omega
  have hne : ((n : Int) + 1 == 0) = false := by simp; omega
  have hrl : (n : Int) < (n : Int) + 1 := by omega
  have hwr : IntKind.wrap .i64 (n : Int) = (n : Int) := by unfold IntKind.wrap; simp [IntKind.signed, IntKind.bits]; omega
  clear hc z hst h hn hlen hw hk0 hk1 hk2 hk3 hl
  go_enter Tryd.func41, Tryd.ntmps41
  go_wp2_with fail
  go_region
  go_wp2_with fail
  refine bodyPost_ret (v := .agg #[.int .i64 k0, .int .i64 k1, .string k2, .string k3]) (by simp [results, Tryd.f41, go_sem]) rfl ⟨rfl, ?_⟩
  exact ((Below.refl _ W).alloc (Nat.le_refl _) _).drew

/-- What a call that turns what waits leaves. -/
def StTo (W : World) (base M : Nat) (sv pv : Value) (wl' : List Wt) (P : List Int) (mb : Nat) (es : List Nat) (W' : World) : Prop :=
  ∃ sv', Mt W' base M sv' pv wl' P mb es ∧ Chg M sv pv W W' ∧ Near W sv sv'
theorem StTo.drew {W : World} {base M : Nat} {sv pv : Value} {wl' : List Wt} {P : List Int} {mb : Nat} {es : List Nat} {W' : World} (h : StTo W base M sv pv wl' P mb es W') : StTo W base M sv pv wl' P mb es W'.drew := by
  obtain ⟨sv', h1, h2, h3⟩ := h
  exact ⟨sv', h1.below (Below.refl _ _).drew, h2.trans (Chg.of (Below.refl _ _).drew (Nat.le_refl _)) (Near.refl _ _) (Near.refl _ _), h3⟩
theorem row_far {X Y : World} {row : Option Nat} {k : Nat} {t : TypeId} {cs : Array Value} (h : Row X k t cs) (hg : X.grownBy Y row) (hne : row ≠ some k) : Row Y k t cs := (hg.block k h.lt (fun e => hne e.symm)).trans h

set_option maxRecDepth 100000 in
set_option maxHeartbeats 1000000 in
theorem push_c (W : World) (base M q : Nat) (sv pv : Value) (wl : List Wt) (x : Wt) (P : List Int) (mb : Nat) (es : List Nat) (h : Mt W base M sv pv wl P mb es) (hl : wl.length ≤ 1000) (hb : base ≤ W.heap.size)
    (hq : ∀ i, i < 4 → W.cell? ⟨q, i, none⟩ = (wcell x)[i]?) :
    Calls Tryd.prog 57 #[.pointer (some ⟨M, 0, none⟩), .slice (some ⟨q, 0, none⟩) 1 1] W fun e W' => e = .returned (.tuple #[]) ∧ StTo W base M sv pv (wl ++ [x]) P mb es W' := by
  obtain ⟨i0, hi, hz0, hz1, hz2⟩ := infoW
  obtain ⟨a0, cp, rfl⟩ := own_form h.st
  obtain ⟨n, hn⟩ : ∃ n, n = wl.length := ⟨_, rfl⟩
  have hst := h.st
  rw [← hn] at hst hl ⊢
  obtain ⟨sv, hsv⟩ : ∃ sv, sv = Value.slice a0 n cp := ⟨_, rfl⟩
  have hrow := h.row
  rw [← hn, ← hsv] at hrow
  rw [← hsv]
  rw [← hsv] at hst
  have z0 := hrow.cell 0
  simp at z0
  have HNW : Hid (∀ (j : Nat) (u : Value), (wcell x)[j]? = some u → W.cell? ((⟨q, 0, none⟩ : Addr).add j) = some u) := Lib.hid (fun j u hu => by
    have hj : j < 4 := by have := (List.getElem?_eq_some_iff.1 hu).1; simpa [wcell] using this
    rw [addr_add, Nat.zero_add, hq j hj]
    exact hu)
  have HONE := Lib.hid (wcell_one x)
  have HLEN : Hid (n + 1 ≤ maxLen ∧ (n + 1) * 48 ≤ 140737488355328) := Lib.hid ⟨by unfold maxLen; omega, by omega⟩
  have HW4 : Hid ((wcell x).length = 1 * 4) := Lib.hid rfl
  have HST := Lib.hid hst
  have hne1 : sv.ownBlock ≠ some M := by rw [hsv, hn]; exact h.ne1
  have hne3 : ∀ k, sv.ownBlock = some k → pv.ownBlock ≠ some k := by rw [hsv, hn]; exact h.ne3
  have FIN : Hid (∀ (g cap : Nat) (w1 : World), w1.ownsRow base 71 4 (.slice (some ⟨g, 0, none⟩) (n + 1) cap) (n + 1) (wcells wl ++ wcell x) → W.grownBy w1 sv.ownBlock → (sv.ownBlock = some g ∨ g = W.heap.size) →
      (w1.cell? ⟨M, 0, none⟩ = some sv ∧ w1.frozen? ⟨M, 0, none⟩ = false) ∧ StTo W base M sv pv (wl ++ [x]) P mb es (w1.setCell ⟨M, 0, none⟩ (.slice (some ⟨g, 0, none⟩) (n + 1) cap))) := Lib.hid (fun g cap w1 ho hg hat => by
    have r1 := row_far hrow hg hne1
    have hgM : g ≠ M := fun e => by
      rcases hat with e2 | e2
      · exact hne1 (by rw [e2, e])
      · have := hrow.lt; omega
    refine ⟨⟨by rw [r1.cell 0]; rfl, r1.frozen 0⟩, .slice (some ⟨g, 0, none⟩) (n + 1) cap, ⟨r1.set 0 _, ?_, ?_, ?_, h.all, h.lo, ?_, h.ne2, ?_⟩, ?_, ?_⟩
    · rw [List.length_append, List.length_singleton, ← hn, wcells_snoc]
      refine ⟨ho.1, ?_⟩
      rcases ho.2 with ⟨hv, h0⟩ | ⟨g', cap', cur, e1, e2, e3, e4⟩
      · cases hv
      · cases e1
        exact .inr ⟨g, cap, cur, rfl, e2, (Below.heap_setCell w1 _ _ _ hgM).trans e3, e4⟩
    · have hp := h.pr.kept hg (by
        cases hpv : pv.ownBlock with
        | none => exact .inl rfl
        | some k => exact .inr (fun e => hne3 k e.symm hpv))
      refine ⟨hp.1, ?_⟩
      rcases hp.2 with hv | ⟨g', cap', cur, e1, e2, e3, e4⟩
      · exact .inl hv
      · exact .inr ⟨g', cap', cur, e1, e2, (Below.heap_setCell w1 _ _ _ (fun e => h.ne2 (by rw [e1]; exact congrArg some e))).trans e3, e4⟩
    · have hm := h.mp
      have hmM : mb ≠ M := fun e => by
        have h2 := hrow
        unfold MapAt at hm
        rw [e] at hm
        rw [show W.heap[M]? = _ from h2] at hm
        cases hm
      have hmb : sv.ownBlock ≠ some mb := fun e => by
        rcases hst.2 with ⟨hv, h0⟩ | ⟨g', cap', cur, e1, e2, e3, e4⟩
        · rw [hv] at e; cases e
        · rw [e1] at e; cases e
          unfold MapAt at hm
          rw [e3] at hm; cases hm
      exact (Below.heap_setCell w1 _ _ _ hmM).trans ((hg.block mb (Array.getElem?_eq_some_iff.1 hm).1 (fun e => hmb e.symm)).trans hm)
    · intro e; exact hgM (by simpa [Value.ownBlock] using e)
    · intro k e e2
      simp [Value.ownBlock] at e
      subst e
      rcases hat with e3 | e3
      · exact hne3 g e3 e2
      · have := (h.pr.lt g e2).2; omega
    · refine ⟨hg.os, hg.tape, hg.output, by rw [World.size_setCell]; exact hg.size, fun k hk h1 h2 h3 => ?_⟩
      rw [Below.heap_setCell w1 _ _ _ h1]
      exact hg.block k hk (fun e => h2 e.symm)
    · intro k e
      simp [Value.ownBlock] at e
      subst e
      rcases hat with e3 | e3
      · exact .inl e3
      · exact .inr (by omega))
  clear hst hsv hrow hn hq hne1 hne3 h
  go_enter Tryd.func57, Tryd.ntmps57
  go_wp2_with (at_builtin; refine wpList_append_lies _ rfl (.tmp 8) (.tmp 9) 64 rfl base 71 i0 (.agg #[.int .i64 0, .int .i64 0, .string ⟨#[]⟩, .string ⟨#[]⟩]) 4 48 Tryd.underlying64 hi hz0 hz1 hz2 rfl (by decide) sv n (wcells wl) rfl HST.out ⟨q, 0, none⟩ 1 1 (wcell x) rfl HW4.out HNW.out HONE.out (by decide) HLEN.out.1 HLEN.out.2 hb _ rfl ?_; intro g cap w1 hown hgrow hat _; obtain ⟨⟨d0, d1⟩, hfin⟩ := FIN.out g cap w1 hown hgrow hat; have HF := Lib.hid hfin; clear hown hgrow hat hfin)
  go_end0
  exact ⟨rfl, HF.out⟩

theorem Mt.put {W : World} {base M : Nat} {sv : Value} {wl : List Wt} {P : List Int} {mb : Nat} {es : List Nat} {g cap : Nat} (h : Mt W base M sv (.slice (some ⟨g, 0, none⟩) P.length cap) wl P mb es) (j : Nat) (x : Int) :
    Mt (W.setCell ⟨g, j, none⟩ (.int .i64 x)) base M sv (.slice (some ⟨g, 0, none⟩) (P.set j x).length cap) wl (P.set j x) mb es ∧ Chg M sv (.slice (some ⟨g, 0, none⟩) P.length cap) W (W.setCell ⟨g, j, none⟩ (.int .i64 x)) := by
  have hs := h.pr.stored j (.int .i64 x)
  have hgM : g ≠ M := fun e => h.ne2 (by rw [e]; rfl)
  have hsv : ∀ k, sv.ownBlock = some k → k ≠ g := fun k e e2 => h.ne3 k e (by rw [e2]; rfl)
  have hblk : ∀ k, k ≠ g → (W.setCell ⟨g, j, none⟩ (.int .i64 x)).heap[k]? = W.heap[k]? := fun k hk => Below.heap_setCell W _ _ _ hk
  have hmg : mb ≠ g := fun e => by
    have hm := h.mp
    rcases h.pr.2 with ⟨hv, h0⟩ | ⟨g', cap', cur, e1, e2, e3, e4⟩
    · cases hv
    · cases e1
      unfold MapAt at hm
      rw [e, e3] at hm; cases hm
  refine ⟨⟨?_, ?_, ?_, ?_, h.all, h.lo, h.ne1, ?_, ?_⟩, ⟨hs.2.os, hs.2.tape, hs.2.output, hs.2.size, fun k _ _ _ h3 => hblk k (fun e => h3 (by rw [e]; rfl))⟩⟩
  · rw [List.length_set]
    exact (hblk M (Ne.symm hgM)).trans h.row
  · refine ⟨h.st.1, ?_⟩
    rcases h.st.2 with hv | ⟨g', cap', cur, e1, e2, e3, e4⟩
    · exact .inl hv
    · exact .inr ⟨g', cap', cur, e1, e2, (hblk g' (hsv g' (by rw [e1]; rfl))).trans e3, e4⟩
  · show World.ownsRow _ _ _ _ _ _ _
    rw [List.length_set, ← nums_set]
    exact hs.1
  · exact (hblk mb hmg).trans h.mp
  · exact h.ne2
  · exact h.ne3

set_option maxRecDepth 100000 in
set_option maxHeartbeats 1000000 in
theorem join_c (W : World) (base M a b : Nat) (sv pv : Value) (wl : List Wt) (P : List Int) (mb : Nat) (es : List Nat) (h : Mt W base M sv pv wl P mb es) (ha : a < P.length) (hb : b < P.length) (hP : P.length ≤ 1000) :
    Calls Tryd.prog 58 #[.pointer (some ⟨M, 0, none⟩), .int .i64 (a : Int), .int .i64 (b : Int)] W fun e W' => e = .returned (.tuple #[]) ∧ Mt W' base M sv pv wl ((P.set a (b : Int)).set b (a : Int)) mb es ∧ Chg M sv pv W W' := by
  have hpr := h.pr
  obtain ⟨g, cap, rfl, hg1, hg2⟩ := hpr.form (by omega)
  obtain ⟨n, hn⟩ : ∃ n, n = P.length := ⟨_, rfl⟩
  obtain ⟨m1, k1⟩ := h.put a (b : Int)
  obtain ⟨m2, k2⟩ := m1.put b (a : Int)
  obtain ⟨za, hza⟩ : ∃ z, P[a]? = some z := ⟨_, List.getElem?_eq_getElem ha⟩
  obtain ⟨zb, hzb⟩ : ∃ z, (P.set a (b : Int))[b]? = some z := ⟨_, List.getElem?_eq_getElem (by simpa using hb)⟩
  have c0 := h.row.cell 1
  simp at c0
  have c1 : W.cell? ⟨g, a, none⟩ = some (.int .i64 za) := by rw [hpr.cellAt a (by simpa [nums] using ha)]; exact nums_at hza
  have c2 : W.frozen? ⟨g, a, none⟩ = false := hpr.frozenAt a
  have c3 : (W.setCell ⟨g, a, none⟩ (.int .i64 (b : Int))).cell? ⟨g, b, none⟩ = some (.int .i64 zb) := by rw [m1.pr.cellAt b (by simpa [nums] using hb)]; exact nums_at hzb
  have c4 : (W.setCell ⟨g, a, none⟩ (.int .i64 (b : Int))).frozen? ⟨g, b, none⟩ = false := m1.pr.frozenAt b
  have HF : Hid (Mt ((W.setCell ⟨g, a, none⟩ (.int .i64 (b : Int))).setCell ⟨g, b, none⟩ (.int .i64 (a : Int))) base M sv (.slice (some ⟨g, 0, none⟩) P.length cap) wl ((P.set a (b : Int)).set b (a : Int)) mb es ∧ Chg M sv (.slice (some ⟨g, 0, none⟩) P.length cap) W ((W.setCell ⟨g, a, none⟩ (.int .i64 (b : Int))).setCell ⟨g, b, none⟩ (.int .i64 (a : Int)))) := Lib.hid (by
    rw [List.length_set, List.length_set] at m2
    exact ⟨m2, k1.trans k2 (Near.refl _ _) (fun k e => .inl e)⟩)
  rw [← hn] at c0 ha hb HF hP ⊢
  have t1 : (a : Int) < (n : Int) := by omega
  have t2 : (b : Int) < (n : Int) := by omega
  clear m1 m2 k1 k2 hpr h hza hzb hg1 hg2 hn
  go_enter Tryd.func58, Tryd.ntmps58
  go_wp2_with fail
  go_region
  go_end0
  exact ⟨rfl, HF.out.1.below (Below.refl _ _).drew, HF.out.2.trans (Chg.of (Below.refl _ _).drew (Nat.le_refl _)) (Near.refl _ _) (Near.refl _ _)⟩

/-- All but the last one that waits. -/
theorem wown_pop {W : World} {base g n cap : Nat} {wl : List Wt} {x : Wt} (h : W.ownsRow base 71 4 (.slice (some ⟨g, 0, none⟩) n cap) (wl ++ [x]).length (wcells (wl ++ [x]))) : W.ownsRow base 71 4 (.slice (some ⟨g, 0, none⟩) wl.length cap) wl.length (wcells wl) := by
  rcases h.2 with ⟨h', _⟩ | ⟨g', cap', cur, h', hb, hg, hnc, hcm, hcs, ht⟩
  · cases h'
  · simp only [Value.slice.injEq, Option.some.injEq, Addr.mk.injEq, and_true] at h'
    obtain ⟨rfl, _, rfl⟩ := h'
    rw [List.length_append, List.length_singleton] at hnc ht
    refine ⟨wcells_len wl, .inr ⟨g, cap, cur, rfl, hb, hg, by omega, hcm, hcs, ?_⟩⟩
    have e := congrArg (List.take (wl.length * 4)) ht
    rw [List.take_take, Nat.min_eq_left (by omega), wcells_snoc, List.take_left' (wcells_len wl)] at e
    exact e
/-- The matcher gets what waits anew, in the same block. -/
theorem Mt.stack {W : World} {base M : Nat} {sv sv' pv : Value} {wl wl' : List Wt} {P : List Int} {mb : Nat} {es : List Nat} (h : Mt W base M sv pv wl P mb es) (ho : W.ownsRow base 71 4 sv' wl'.length (wcells wl')) (hb : sv'.ownBlock = sv.ownBlock) :
    Mt (W.setCell ⟨M, 0, none⟩ sv') base M sv' pv wl' P mb es ∧ Chg M sv pv W (W.setCell ⟨M, 0, none⟩ sv') := by
  have hblk : ∀ k, k ≠ M → (W.setCell ⟨M, 0, none⟩ sv').heap[k]? = W.heap[k]? := fun k hk => Below.heap_setCell W _ _ _ hk
  have hmM : mb ≠ M := fun e => by
    have hm := h.mp
    have h2 := h.row
    unfold MapAt at hm
    rw [e] at hm
    rw [show W.heap[M]? = _ from h2] at hm
    cases hm
  have hsM : ∀ k, sv'.ownBlock = some k → k ≠ M := fun k e e2 => h.ne1 (by rw [← hb, e, e2])
  have hpM : ∀ k, pv.ownBlock = some k → k ≠ M := fun k e e2 => h.ne2 (by rw [e, e2])
  refine ⟨⟨h.row.set 0 _, ?_, ?_, (hblk mb hmM).trans h.mp, h.all, h.lo, fun e => hsM M e rfl, h.ne2, fun k e => h.ne3 k (by rw [← hb]; exact e)⟩, ⟨rfl, rfl, rfl, by rw [World.size_setCell]; exact Nat.le_refl _, fun k _ h1 _ _ => hblk k h1⟩⟩
  · refine ⟨ho.1, ?_⟩
    rcases ho.2 with hv | ⟨g', cap', cur, e1, e2, e3, e4⟩
    · exact .inl hv
    · exact .inr ⟨g', cap', cur, e1, e2, (hblk g' (hsM g' (by rw [e1]; rfl))).trans e3, e4⟩
  · have hp := h.pr
    refine ⟨hp.1, ?_⟩
    rcases hp.2 with hv | ⟨g', cap', cur, e1, e2, e3, e4⟩
    · exact .inl hv
    · exact .inr ⟨g', cap', cur, e1, e2, (hblk g' (hpM g' (by rw [e1]; rfl))).trans e3, e4⟩

set_option maxRecDepth 100000 in
set_option maxHeartbeats 1000000 in
theorem pop_c (W : World) (base M : Nat) (sv pv : Value) (wl : List Wt) (x : Wt) (P : List Int) (mb : Nat) (es : List Nat) (h : Mt W base M sv pv (wl ++ [x]) P mb es) (hl : wl.length ≤ 1000) :
    Calls Tryd.prog 59 #[.pointer (some ⟨M, 0, none⟩)] W fun e W' => e = .returned (.int .i64 (x.1 : Int)) ∧ StTo W base M sv pv wl P mb es W' := by
  have htop := top_some W base M sv pv wl x P mb es h hl
  have hst := h.st
  obtain ⟨g, cap, rfl, hg1, hg2⟩ := hst.form (by simp)
  have hcap := own_cap hst
  obtain ⟨n, hn⟩ : ∃ n, n = wl.length := ⟨_, rfl⟩
  have hlen : (wl ++ [x]).length = n + 1 := by simp [hn]
  obtain ⟨k0, hk0⟩ : ∃ k : Int, k = (x.1 : Int) := ⟨_, rfl⟩
  obtain ⟨k1, hk1⟩ : ∃ k : Int, k = x.2.kind := ⟨_, rfl⟩
  obtain ⟨k2, hk2⟩ : ∃ k, k = bs x.2.text := ⟨_, rfl⟩
  obtain ⟨k3, hk3⟩ : ∃ k, k = bs x.2.glyph := ⟨_, rfl⟩
  rw [← hk0, ← hk1, ← hk2, ← hk3] at htop
  rw [← hk0]
  have FIN : Hid (∀ W1, Below W.heap.size W W1 → (W1.cell? ⟨M, 0, none⟩ = some (.slice (some ⟨g, 0, none⟩) (n + 1) cap) ∧ W1.frozen? ⟨M, 0, none⟩ = false) ∧ StTo W base M (.slice (some ⟨g, 0, none⟩) (n + 1) cap) pv wl P mb es (W1.setCell ⟨M, 0, none⟩ (.slice (some ⟨g, 0, none⟩) n cap))) := Lib.hid (fun W1 hb => by
    have h1 := h.below hb
    have r1 := h1.row
    have ho := wown_pop h1.st
    rw [← hn] at ho
    obtain ⟨m1, c1⟩ := h1.stack (sv' := .slice (some ⟨g, 0, none⟩) n cap) (wl' := wl) (by rw [← hn]; exact ho) rfl
    refine ⟨⟨by rw [r1.cell 0, hlen]; rfl, r1.frozen 0⟩, _, m1, ?_, fun k e => .inl e⟩
    rw [hlen] at c1
    exact (Chg.of hb (Nat.le_refl _)).trans c1 (Near.refl _ _) (Near.refl _ _))
  have HT := Lib.hid htop
  have HM := Lib.hid h.row.lt
  have hn1 : n ≤ 1000 := by omega
  rw [hlen] at hcap ⊢
  have hc1 : (n : Int) ≤ (cap : Int) := by omega
  have hwr : IntKind.wrap .i64 ((n : Int) + 1 - 1) = (n : Int) := by rw [show (n : Int) + 1 - 1 = (n : Int) by omega]; unfold IntKind.wrap; simp [IntKind.signed, IntKind.bits]; omega
  have hwr2 : IntKind.wrap .i64 (n : Int) = (n : Int) := by unfold IntKind.wrap; simp [IntKind.signed, IntKind.bits]; omega
  clear htop hst h hn hlen hk0 hk1 hk2 hk3 hl hg1 hg2
  go_enter Tryd.func59, Tryd.ntmps59
  go_wp2_with fail
  refine HT.out.mono ?_
  rintro e w1 ⟨rfl, hb1⟩
  have HB := Lib.hid (hb1.alloc hb1.size (.cells #[.int .i64 k0, .int .i64 k1, .string k2, .string k3] 71))
  obtain ⟨⟨c1, c2⟩, hfin⟩ := FIN.out _ HB.out
  have HF := Lib.hid hfin
  have hMs := HM.out
  have c5 : ((w1.alloc (.cells #[.int .i64 k0, .int .i64 k1, .string k2, .string k3] 71)).setCell ⟨M, 0, none⟩ (.slice (some ⟨g, 0, none⟩) n cap)).cell? ⟨w1.heap.size, 0, none⟩ = some (.int .i64 k0) := by
    have r : Row ((w1.alloc (.cells #[.int .i64 k0, .int .i64 k1, .string k2, .string k3] 71)).setCell ⟨M, 0, none⟩ (.slice (some ⟨g, 0, none⟩) n cap)) w1.heap.size 71 #[.int .i64 k0, .int .i64 k1, .string k2, .string k3] :=
      (Below.heap_setCell _ _ _ _ (by have := hb1.size; dsimp only; omega)).trans (Row.new _ _ _)
    exact r.cell 0
  clear hb1 hfin hMs
  go_wp2_with fail
  go_region
  go_wp2_with fail
  go_ret
  exact ⟨rfl, HF.out.drew⟩
theorem Mt.chg_below {W W' : World} {base M : Nat} {sv pv : Value} {wl : List Wt} {P : List Int} {mb : Nat} {es : List Nat} (h : Mt W base M sv pv wl P mb es) (hc : Chg M sv pv W W') (hb : base ≤ W.heap.size) : Below base W W' :=
  hc.below hb h.lo (fun k e => (h.st.lt k e).1) (fun k e => (h.pr.lt k e).1) (Nat.le_refl base)
end Go.Proofs.YthbiflmmlcmncaaDoor.Ti
