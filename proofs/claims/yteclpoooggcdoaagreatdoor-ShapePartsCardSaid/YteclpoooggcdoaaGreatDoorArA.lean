/- Merged by gen/ar_merge.py: ArMem, ArPair, ArRight. -/
import Derived.Test.YteclpoooggcdoaaGreatDoorNuA
import Derived.Lib.Strings
import Derived.Shelf.AbstractIn
/- Arrays in memory; which are right, plain. -/
namespace Go.Proofs.YteclpoooggcdoaaGreatDoor.Ar
open Go Go.RowKit

/-- Numbers in memory, wherever they begin. -/
structure KL (W : World) (v : Value) (A : List Int) : Prop where
  form : ∃ a0 c0, v = .slice a0 A.length c0 ∧ A.length ≤ c0 ∧ c0 ≤ maxLen
  cells : 0 < A.length → ∃ g o c0, v = .slice (some ⟨g, o, none⟩) A.length c0 ∧ g < W.heap.size ∧ ∀ j x, A[j]? = some x → W.cell? ⟨g, o + j, none⟩ = some (.int .i64 x)
theorem KL.below {W W' : World} {v : Value} {A : List Int} (h : KL W v A) (hb : Below W.heap.size W W') : KL W' v A := by
  refine ⟨h.form, fun h0 => ?_⟩
  obtain ⟨g, o, c0, hv, hg, hc⟩ := h.cells h0
  exact ⟨g, o, c0, hv, Nat.lt_of_lt_of_le hg hb.size, fun j x hj => (hb.cell (p := ⟨g, o + j, none⟩) hg).trans (hc j x hj)⟩
theorem KL.nil (W : World) : KL W (.slice none 0 0) [] := ⟨⟨none, 0, rfl, Nat.le_refl _, Nat.zero_le _⟩, fun h => by simp at h⟩
/-- Numbers as cells; v owns them. -/
def nums (L : List Int) : List Value := L.map fun x => Value.int .i64 x
theorem nums_len (L : List Int) : (nums L).length = L.length := by simp [nums]
theorem nums_snoc (L : List Int) (x : Int) : nums (L ++ [x]) = nums L ++ [.int .i64 x] := by simp [nums]
theorem nums_at {L : List Int} {k : Nat} {x : Int} (h : L[k]? = some x) : (nums L)[k]? = some (.int .i64 x) := by simp [nums, h]
abbrev IOwn (W : World) (base : Nat) (v : Value) (L : List Int) : Prop := W.ownsRow base 2 1 v L.length (nums L)
theorem IOwn.nil (W : World) (base : Nat) : IOwn W base (.slice none 0 0) [] := World.ownsRow_nil _ _ _ _
theorem IOwn.kl {W : World} {base : Nat} {v : Value} {L : List Int} (h : IOwn W base v L) : KL W v L := by
  have h' := h
  rcases h.2 with ⟨hv, h0⟩ | ⟨g, cap, cur, hv, hg, hh, h1, h2, h3, h4⟩
  · refine ⟨⟨none, 0, by rw [hv, h0], by rw [h0]; exact Nat.le_refl _, Nat.zero_le _⟩, fun h => by omega⟩
  · subst hv
    refine ⟨⟨_, cap, rfl, h1, h2⟩, fun _ => ⟨g, 0, cap, rfl, (Array.getElem?_eq_some_iff.1 hh).1, fun j x hj => ?_⟩⟩
    have hjl : j < L.length := (List.getElem?_eq_some_iff.1 hj).1
    rw [Nat.zero_add, World.ownsRow.cellAt h' j (by omega)]
    exact nums_at hj
theorem info_parts {o : Option TypeInfo} {z : Option Value} {s b : Nat} (h : o.map (fun i => (i.zero, i.size, i.bytes)) = some (z, s, b)) : ∃ i, o = some i ∧ i.zero = z ∧ i.size = s ∧ i.bytes = b := by
  cases o with
  | none => cases h
  | some i =>
    simp at h
    exact ⟨i, rfl, h.1, h.2.1, h.2.2⟩
theorem infoI : ∃ i, Tryz.prog.info? 2 = some i ∧ i.zero = some (.int .i64 0) ∧ i.size = 1 ∧ i.bytes = 8 :=
  info_parts (show (Tryz.prog.info? 2).map (fun i => (i.zero, i.size, i.bytes)) = some (some (.int .i64 0), 1, 8) by kernel_rfl)
/-- An array. -/
structure Ary where
  list : Bool
  runes : Bool
  n : List Int
/-- The value v is that array. -/
abbrev aryV (a : Ary) (s : Value) : Value := .agg #[.bool a.list, .bool a.runes, s]
/-- Is a number a rune? -/
def runeN (n : Int) : Bool := decide (0 ≤ n ∧ n ≤ 1114111 ∧ (n < 55296 ∨ 57343 < n))
def cntA (a : Ary) : Bool := if a.list then decide (a.n.length ≤ 200) else decide (a.n.length = 1)
def rightA (a : Ary) : Bool := cntA a && (!a.runes || a.n.all runeN)
def hasR (a : Ary) : Bool := a.runes && decide (0 < a.n.length)
/-- Numbers of 64 bits. -/
abbrev InL (L : List Int) : Prop := ∀ x ∈ L, Nu.In x
/-- Some arrays lie one behind the other. -/
def ArysAt (W : World) (b o : Nat) (As : List Ary) : Prop := b < W.heap.size ∧ ∀ j a, As[j]? = some a → ∃ s, W.cell? ⟨b, o + j * 3, none⟩ = some (.bool a.list) ∧ W.cell? ⟨b, o + j * 3 + 1, none⟩ = some (.bool a.runes) ∧ W.cell? ⟨b, o + j * 3 + 2, none⟩ = some s ∧ KL W s a.n ∧ InL a.n
theorem ArysAt.below {W W' : World} {b o : Nat} {As : List Ary} (h : ArysAt W b o As) (hb : Below W.heap.size W W') : ArysAt W' b o As := by
  refine ⟨Nat.lt_of_lt_of_le h.1 hb.size, fun j a hj => ?_⟩
  obtain ⟨s, h1, h2, h3, h4, h5⟩ := h.2 j a hj
  exact ⟨s, (hb.cell (p := ⟨b, _, none⟩) h.1).trans h1, (hb.cell (p := ⟨b, _, none⟩) h.1).trans h2, (hb.cell (p := ⟨b, _, none⟩) h.1).trans h3, h4.below hb, h5⟩
theorem at_of {α : Type} {L : List α} {k : Nat} (h : k < L.length) : ∃ x, L[k]? = some x := ⟨_, List.getElem?_eq_getElem h⟩
end Go.Proofs.YteclpoooggcdoaaGreatDoor.Ar
/- Which arrays have runes; pairs: how long, whether they differ, their items. -/
namespace Go.Proofs.YteclpoooggcdoaaGreatDoor.Ar
open Go Go.RowKit Go.Shelf
attribute [local go_sem] Oper.semAt_some

/-- Two arrays, flat. -/
abbrev pairV (a b : Ary) (s t : Value) : Value := .agg #[.bool a.list, .bool a.runes, s, .bool b.list, .bool b.runes, t]
def lenP (a b : Ary) : Nat := if a.list then a.n.length else b.n.length
def differA (a b : Ary) : Bool := a.list && b.list && decide (a.n.length ≠ b.n.length)
/-- The item for a place. -/
def itemA (a : Ary) (i : Nat) : Int := if a.list then a.n.getD i 0 else a.n.getD 0 0
def takesA (g : ByteArray) : Bool := g.toList == [61] || g.toList == [226, 137, 160]
end Go.Proofs.YteclpoooggcdoaaGreatDoor.Ar
/- Which arrays are right; which have runes. -/
namespace Go.Proofs.YteclpoooggcdoaaGreatDoor.Ar
open Go Go.RowKit Go.Shelf
attribute [local go_sem] Oper.semAt_some

set_option maxRecDepth 100000 in
set_option maxHeartbeats 1000000 in
theorem valid_c (r : Int) (w : World) : Calls Tryz.prog 86 #[.int .i32 r] w fun e w' => e = .returned (.bool (runeN r)) ∧ w = w' := by
  rcases (by omega : r < 0 ∨ (0 ≤ r ∧ r < 55296) ∨ (55296 ≤ r ∧ r ≤ 57343) ∨ (57343 < r ∧ r ≤ 1114111) ∨ 1114111 < r) with h | h | h | h | h
  · rw [show runeN r = false by simp [runeN]; omega]
    go_enter Tryz.func86, Tryz.ntmps86
    go_wp2
    go_ret
    exact ⟨rfl, rfl⟩
  · rw [show runeN r = true by simp [runeN]; omega]
    go_enter Tryz.func86, Tryz.ntmps86
    go_wp2
    go_ret
    exact ⟨rfl, rfl⟩
  · rw [show runeN r = false by simp [runeN]; omega]
    go_enter Tryz.func86, Tryz.ntmps86
    go_wp2
    go_ret
    exact ⟨rfl, rfl⟩
  · rw [show runeN r = true by simp [runeN]; omega]
    go_enter Tryz.func86, Tryz.ntmps86
    go_wp2
    go_ret
    exact ⟨rfl, rfl⟩
  · rw [show runeN r = false by simp [runeN]; omega]
    go_enter Tryz.func86, Tryz.ntmps86
    go_wp2
    go_ret
    exact ⟨rfl, rfl⟩
set_option maxRecDepth 100000 in
set_option maxHeartbeats 1000000 in
theorem isNoRune_c (n : Int) (hn : Nu.In n) (w : World) : Calls Tryz.prog 68 #[.int .i64 n] w fun e w' => e = .returned (.bool !runeN n) ∧ w = w' := by
  have HV := Lib.hid (fun r W => valid_c r W)
  by_cases h : wrap64 (wrap32 n) = n
  · have H2 : Hid (runeN (wrap32 n) = runeN n) := Lib.hid (by
      have e : wrap32 n = n := by
        unfold wrap64 wrap32 at h
        unfold wrap32
        omega
      rw [e])
    clear hn
    go_enter Tryz.func68, Tryz.ntmps68
    go_wp2_with (go_at_call 86; refine (HV.out _ _).mono ?_; rintro e w' ⟨rfl, rfl⟩)
    go_ret
    exact ⟨by rw [← H2.out]; rfl, rfl⟩
  · have H2 : Hid (runeN n = false) := Lib.hid (by
      unfold wrap64 wrap32 at h
      simp [runeN]
      omega)
    clear hn
    go_enter Tryz.func68, Tryz.ntmps68
    go_wp2
    go_ret
    exact ⟨by rw [H2.out]; rfl, rfl⟩
theorem enters_isNo (args : Array Value) (w : World) : (callFunc 68 args).run Tryz.prog w = .ok (.enter 68 args) w := enters_of Tryz.func68 (by kernel_rfl) rfl args w
set_option maxRecDepth 100000 in
set_option maxHeartbeats 1000000 in
/-- Where the first one is that is no rune: below 0 if none is. -/
theorem indexFunc_c (v : Value) (L : List Int) (w : World) (hv : KL w v L) (hL : InL L) : Calls Tryz.prog 85 #[v, .func (.func 68) #[] #[]] w fun e w' => (∃ k : Int, e = .returned (.int .i64 k) ∧ decide (0 ≤ k) = !L.all runeN) ∧ w = w' := by
  obtain ⟨a0, c0, rfl, h1, h2⟩ := hv.form
  unfold maxLen at h2
  have HC := Lib.hid hv.cells
  have HN := Lib.hid (fun n h W => isNoRune_c n h W)
  have HL := Lib.hid hL
  have eo := enters_isNo
  obtain ⟨n, hn⟩ : ∃ n, n = L.length := ⟨_, rfl⟩
  have HLen := Lib.hid hn
  rw [← hn] at HC h1 ⊢
  clear hv hL hn
  go_enter Tryz.func85, Tryz.ntmps85
  go_wp2
  go_loop [8] (fun i => ∃ k : Nat, k ≤ n ∧ i = .int .i64 (k : Int) ∧ ∀ x ∈ L.take k, runeN x = true) (fun i => n - (intOf i).toNat)
  case atStart => exact ⟨0, Nat.zero_le _, rfl, by simp⟩
  case round =>
    obtain ⟨k, hk, rfl, hno⟩ := hrel
    have HNO := Lib.hid hno
    clear hno
    by_cases hlt : k < n
    · obtain ⟨g, o, c1, e, hg, hc⟩ := HC.out (by omega)
      injection e with e1 e2 e3
      subst e1 e3
      obtain ⟨x, hx⟩ := at_of (L := L) (k := k) (by rw [← HLen.out]; exact hlt)
      have c := hc k x hx
      have hi := HL.out x (List.mem_of_getElem? hx)
      have HX := Lib.hid hx
      have HI := Lib.hid hi
      clear hc hx hg e2 hi
      cases hr : runeN x
      · have HR := Lib.hid hr
        clear hr
        go_wp2_with (go_at_fn 68; refine (HN.out _ HI.out _).mono ?_; rintro e w' ⟨rfl, rfl⟩; rw [HR.out])
        go_ret
        refine ⟨⟨_, rfl, ?_⟩, rfl⟩
        have : L.all runeN = false := by
          rw [List.all_eq_false]
          exact ⟨x, List.mem_of_getElem? HX.out, by rw [HR.out]; decide⟩
        rw [this]
        simp
      · have HR := Lib.hid hr
        clear hr
        go_wp2_with (go_at_fn 68; refine (HN.out _ HI.out _).mono ?_; rintro e w' ⟨rfl, rfl⟩; rw [HR.out])
        go_round
        case rel =>
          refine ⟨k + 1, by omega, by go_num, fun y hy => ?_⟩
          rw [List.take_add_one, HX.out, List.mem_append] at hy
          rcases hy with hy | hy
          · exact HNO.out y hy
          · simp at hy
            rw [hy]
            exact HR.out
        case measure => simp [intOf]; omega
    · have hkn : k = n := by omega
      subst hkn
      go_wp2
      go_ret
      refine ⟨⟨_, rfl, ?_⟩, rfl⟩
      have : L.all runeN = true := by
        rw [List.all_eq_true]
        intro x hx
        exact HNO.out x (by rw [HLen.out, List.take_length]; exact hx)
      rw [this]
      decide
set_option maxRecDepth 100000 in
set_option maxHeartbeats 1000000 in
theorem contains_c (v : Value) (L : List Int) (w : World) (hv : KL w v L) (hL : InL L) : Calls Tryz.prog 67 #[v, .func (.func 68) #[] #[]] w fun e w' => e = .returned (.bool !L.all runeN) ∧ w = w' := by
  have HI := Lib.hid (indexFunc_c v L w hv hL)
  clear hv hL
  go_enter Tryz.func67, Tryz.ntmps67
  go_wp2_with (go_at_call 85; refine HI.out.mono ?_; rintro e w' ⟨⟨k, rfl, hk⟩, rfl⟩; have HK := Lib.hid hk; clear hk)
  go_ret
  exact ⟨by rw [← HK.out]; rfl, rfl⟩
set_option maxRecDepth 100000 in
set_option maxHeartbeats 1000000 in
theorem counts_c (a : Ary) (s : Value) (w : World) (hs : KL w s a.n) : Calls Tryz.prog 66 #[aryV a s] w fun e w' => e = .returned (.bool (cntA a)) ∧ Below w.heap.size w w' := by
  obtain ⟨L, R, N⟩ := a
  obtain ⟨a0, c0, rfl, h1, h2⟩ := hs.form
  dsimp only at h1 ⊢
  obtain ⟨n, hn⟩ : ∃ n, n = N.length := ⟨_, rfl⟩
  have HB := Lib.hid ((Below.refl w.heap.size w).alloc (Nat.le_refl _) (.cells #[.bool L, .bool R, .slice a0 n c0] 24))
  have HC : Hid (cntA ⟨true, R, N⟩ = decide ((n : Int) ≤ 200) ∧ cntA ⟨false, R, N⟩ = ((n : Int) == 1)) := Lib.hid (by
    constructor
    · simp [cntA, hn]
      omega
    · rw [Bool.eq_iff_iff]
      simp [cntA, hn]
      omega)
  rw [← hn]
  clear hn hs h1 h2
  cases L
  · go_enter Tryz.func66, Tryz.ntmps66
    go_wp2
    go_ret
    exact ⟨by rw [HC.out.2]; rfl, HB.out⟩
  · go_enter Tryz.func66, Tryz.ntmps66
    go_wp2
    go_ret
    exact ⟨by rw [HC.out.1]; rfl, HB.out⟩
set_option maxRecDepth 100000 in
set_option maxHeartbeats 4000000 in
/-- allRight(arrays). -/
theorem allRight_c (b o c : Nat) (As : List Ary) (w : World) (hA : ArysAt w b o As) (hl : As.length ≤ 1000) : Calls Tryz.prog 41 #[.slice (some ⟨b, o, none⟩) As.length c] w fun e w' => e = .returned (.bool (As.all rightA)) ∧ Below w.heap.size w w' := by
  have HA := Lib.hid hA
  have HC := Lib.hid (fun a s W h => counts_c a s W h)
  have HF := Lib.hid (fun v L W h1 h2 => contains_c v L W h1 h2)
  obtain ⟨n, hn⟩ : ∃ n, n = As.length := ⟨_, rfl⟩
  have HLen := Lib.hid hn
  rw [← hn] at hl ⊢
  clear hA hn
  go_enter Tryz.func41, Tryz.ntmps41
  go_wp2
  go_loopw [7] (fun i wr => ∃ k : Nat, k ≤ n ∧ i = .int .i64 (k : Int) ∧ Below w.heap.size w wr ∧ ∀ a ∈ As.take k, rightA a = true) (fun i _ => n - (intOf i).toNat)
  case atStart => exact ⟨0, Nat.zero_le _, rfl, Below.refl _ _, by simp⟩
  case round =>
    obtain ⟨k, hk, rfl, hb, hno⟩ := hrel
    have HNO := Lib.hid hno
    have HB := Lib.hid hb
    clear hno
    by_cases hlt : k < n
    · obtain ⟨a, ha⟩ := at_of (L := As) (k := k) (by rw [← HLen.out]; exact hlt)
      obtain ⟨s, c0, c1, c2, hs, hi⟩ := (HA.out.below hb).2 k a ha
      have HX := Lib.hid ha
      have HS := Lib.hid hs
      have HI := Lib.hid hi
      have HR : Hid (rightA a = (cntA a && (!a.runes || a.n.all runeN))) := Lib.hid rfl
      obtain ⟨L, R, N⟩ := a
      dsimp only at c0 c1
      obtain ⟨sa, sc, hsf, -, -⟩ := hs.form
      obtain ⟨m, hm⟩ : ∃ m, m = (⟨L, R, N⟩ : Ary).n.length := ⟨_, rfl⟩
      rw [← hm] at hsf
      subst hsf
      clear ha hs hi hb hm
      have HB1 := Lib.hid (HB.out.trans (((Below.refl wr.heap.size wr).alloc (Nat.le_refl _) (.cells #[.bool L, .bool R, .slice sa m sc] 24)).mono HB.out.size))
      have HS1 := Lib.hid (HS.out.below ((Below.refl wr.heap.size wr).alloc (Nat.le_refl _) (.cells #[.bool L, .bool R, .slice sa m sc] 24)))
      obtain ⟨ct, hct⟩ : ∃ ct, ct = cntA ⟨L, R, N⟩ := ⟨_, rfl⟩
      obtain ⟨al, hal⟩ : ∃ al, al = N.all runeN := ⟨_, rfl⟩
      have HN : Hid (∀ W, Below (wr.alloc (.cells #[.bool L, .bool R, .slice sa m sc] 24)).heap.size (wr.alloc (.cells #[.bool L, .bool R, .slice sa m sc] 24)) W → KL W (.slice sa m sc) N ∧ W.cell? ⟨wr.heap.size, 0, none⟩ = some (.bool L) ∧ W.cell? ⟨wr.heap.size, 1, none⟩ = some (.bool R) ∧ W.cell? ⟨wr.heap.size, 2, none⟩ = some (.slice sa m sc)) := Lib.hid (fun W h => ⟨HS1.out.below h, (h.cell (p := ⟨wr.heap.size, 0, none⟩) (by simp)).trans (by simp), (h.cell (p := ⟨wr.heap.size, 1, none⟩) (by simp)).trans (by simp), (h.cell (p := ⟨wr.heap.size, 2, none⟩) (by simp)).trans (by simp)⟩)
      have HCT := Lib.hid hct
      have HAL := Lib.hid hal
      clear hct hal
      cases ct
      · go_wp2_with (go_at_call 66; refine (HC.out _ _ _ HS1.out).mono ?_; rintro e w' ⟨rfl, hb2⟩; rw [← HCT.out]; have HB2 := Lib.hid (HB1.out.trans (hb2.mono HB1.out.size)); clear hb2)
        go_ret
        refine ⟨?_, HB2.out⟩
        have : As.all rightA = false := by
          rw [List.all_eq_false]
          refine ⟨_, List.mem_of_getElem? HX.out, ?_⟩
          rw [HR.out, ← HCT.out]
          simp
        rw [this]
        rfl
      · cases R
        · go_wp2_with (go_at_call 66; refine (HC.out _ _ _ HS1.out).mono ?_; rintro e w' ⟨rfl, hb2⟩; rw [← HCT.out]; obtain ⟨-, k0, k1, k2⟩ := HN.out _ hb2; have HB2 := Lib.hid (HB1.out.trans (hb2.mono HB1.out.size)); clear hb2)
          go_roundw
          case rel =>
            refine ⟨k + 1, by omega, by go_num, HB2.out, fun y hy => ?_⟩
            rw [List.take_add_one, HX.out, List.mem_append] at hy
            rcases hy with hy | hy
            · exact HNO.out y hy
            · simp at hy
              rw [hy, HR.out, ← HCT.out]
              rfl
          case measure => simp [intOf]; omega
        · have HF1 := Lib.hid (fun W h => HF.out (.slice sa m sc) N W h HI.out)
          cases al
          · go_wp2_with (first
              | (go_at_call 66; refine (HC.out _ _ _ HS1.out).mono ?_; rintro e w' ⟨rfl, hb2⟩; rw [← HCT.out]; obtain ⟨k, k0, k1, k2⟩ := HN.out _ hb2; have HK := Lib.hid k; have HB2 := Lib.hid (HB1.out.trans (hb2.mono HB1.out.size)); clear hb2 k)
              | (go_at_call 67; refine (HF1.out _ HK.out).mono ?_; rintro e w' ⟨rfl, rfl⟩; rw [← HAL.out]))
            go_ret
            refine ⟨?_, HB2.out⟩
            have : As.all rightA = false := by
              rw [List.all_eq_false]
              refine ⟨_, List.mem_of_getElem? HX.out, ?_⟩
              rw [HR.out, ← HCT.out, ← HAL.out]
              simp
            rw [this]
            rfl
          · go_wp2_with (first
              | (go_at_call 66; refine (HC.out _ _ _ HS1.out).mono ?_; rintro e w' ⟨rfl, hb2⟩; rw [← HCT.out]; obtain ⟨k, k0, k1, k2⟩ := HN.out _ hb2; have HK := Lib.hid k; have HB2 := Lib.hid (HB1.out.trans (hb2.mono HB1.out.size)); clear hb2 k)
              | (go_at_call 67; refine (HF1.out _ HK.out).mono ?_; rintro e w' ⟨rfl, rfl⟩; rw [← HAL.out]))
            go_roundw
            case rel =>
              refine ⟨k + 1, by omega, by go_num, HB2.out, fun y hy => ?_⟩
              rw [List.take_add_one, HX.out, List.mem_append] at hy
              rcases hy with hy | hy
              · exact HNO.out y hy
              · simp at hy
                rw [hy, HR.out, ← HCT.out, ← HAL.out]
                rfl
            case measure => simp [intOf]; omega
    · have hkn : k = n := by omega
      subst hkn
      clear hb
      go_wp2
      go_ret
      refine ⟨?_, HB.out⟩
      have : As.all rightA = true := by
        rw [List.all_eq_true]
        intro x hx
        exact HNO.out x (by rw [HLen.out, List.take_length]; exact hx)
      rw [this]
      rfl
end Go.Proofs.YteclpoooggcdoaaGreatDoor.Ar
