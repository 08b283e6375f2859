/- The law NodeOwn. Written by gen/mkowns.py. -/
import Derived.Test.YtbegplfijjbpcaaDoorNqShows
namespace Go.Proofs.YtbegplfijjbpcaaDoor.No
open Go Go.RowKit Go.Shelf
attribute [local go_sem] Oper.semAt_some

theorem few_again {T : List Nd} (hl : T.length ≤ 60) (h : ∀ x ∈ T, x.kids.length ≤ 60 ∧ x.text.length ≤ 50) : fewN T = T := by
  unfold fewN
  rw [List.take_of_length_le hl]
  have e : ∀ x ∈ T, cutN x = id x := fun x hx => by
    unfold cutN
    rw [List.take_of_length_le (h x hx).2, List.take_of_length_le (h x hx).1]
    rfl
  rw [List.map_congr_left e, List.map_id]
theorem some_again (KS : List (List Nd)) : someN (someN KS) = someN KS := by
  have h1 := someN_len KS
  have h2 := someN_small KS
  obtain ⟨L, hL⟩ : ∃ L, L = someN KS := ⟨_, rfl⟩
  rw [← hL] at h1 h2 ⊢
  unfold someN
  rw [List.take_of_length_le h1]
  have e : ∀ K ∈ L, fewN K = id K := fun K hK => few_again (h2 K hK).1 (h2 K hK).2
  rw [List.map_congr_left e, List.map_id]
/-- A LIST THAT MAY BE WRITTEN INTO: its nodes in block q, its kids in block r, both not below base. -/
structure CH (W : World) (base : Nat) (v : Value) (n : Nat) : Prop where
  few : n ≤ 1000
  cells : 0 < n → ∃ q r c, v = .slice (some ⟨q, 0, none⟩) n c ∧ base ≤ q ∧ base ≤ r ∧ q ≠ r ∧ ∃ csq csr, Row W q 42 csq ∧ Row W r 3 csr ∧ ∀ j, j < n → (∃ x, csq[j * 3]? = some x) ∧ ∃ kv, csq[j * 3 + 2]? = some kv ∧ (kv = .slice none 0 0 ∨ ∃ off m, kv = .slice (some ⟨r, off, none⟩) m m ∧ 0 < m ∧ ∃ y, csr[off]? = some y)
theorem CH.below {W W' : World} {base : Nat} {v : Value} {n : Nat} (h : CH W base v n) (hb : Below W.heap.size W W') : CH W' base v n := by
  refine ⟨h.few, fun h0 => ?_⟩
  obtain ⟨q, r, c, hv, h1, h2, h3, csq, csr, h4, h5, h6⟩ := h.cells h0
  exact ⟨q, r, c, hv, h1, h2, h3, csq, csr, h4.below hb h4.lt, h5.below hb h5.lt, h6⟩
theorem CH.zero (W : World) (base : Nat) (v : Value) : CH W base v 0 := ⟨Nat.zero_le _, fun h => absurd h (by decide)⟩
/-- A node's kind is written. -/
theorem CH.kind {W : World} {base n k : Nat} {a : Option Addr} {c : Nat} (h : CH W base (.slice a n c) n) (hk : k < n) (z : Value) :
    ∃ q r x, a = some ⟨q, 0, none⟩ ∧ base ≤ q ∧ base ≤ r ∧ W.cell? ⟨q, k * 3, none⟩ = some x ∧ W.frozen? ⟨q, k * 3, none⟩ = false ∧ CH (W.setCell ⟨q, k * 3, none⟩ z) base (.slice a n c) n ∧
      ∃ kv, (W.setCell ⟨q, k * 3, none⟩ z).cell? ⟨q, k * 3 + 2, none⟩ = some kv ∧ (kv = .slice none 0 0 ∨ ∃ off m y, kv = .slice (some ⟨r, off, none⟩) m m ∧ 0 < m ∧ (W.setCell ⟨q, k * 3, none⟩ z).cell? ⟨r, off, none⟩ = some y ∧ (W.setCell ⟨q, k * 3, none⟩ z).frozen? ⟨r, off, none⟩ = false ∧
        ∀ z', CH ((W.setCell ⟨q, k * 3, none⟩ z).setCell ⟨r, off, none⟩ z') base (.slice a n c) n) := by
  obtain ⟨q, r, c', hv, h1, h2, h3, csq, csr, h4, h5, h6⟩ := h.cells (by omega)
  injection hv with ha _ hc
  subst ha
  subst hc
  have hq := h4.set (k * 3) z
  have hr : Row (W.setCell ⟨q, k * 3, none⟩ z) r 3 csr := h5.other (fun e => h3 e.symm) z
  obtain ⟨⟨x, hx⟩, kv, hkv, hcase⟩ := h6 k hk
  have key : ∀ j, j < n → (∃ x, (csq.setIfInBounds (k * 3) z)[j * 3]? = some x) ∧ ∃ kv, (csq.setIfInBounds (k * 3) z)[j * 3 + 2]? = some kv ∧ (kv = .slice none 0 0 ∨ ∃ off m, kv = .slice (some ⟨r, off, none⟩) m m ∧ 0 < m ∧ ∃ y, csr[off]? = some y) := fun j hj => by
    obtain ⟨⟨x', hx'⟩, kv', hkv', hc'⟩ := h6 j hj
    have hlt := (Array.getElem?_eq_some_iff.1 hx').1
    refine ⟨?_, kv', ?_, hc'⟩
    · rw [Array.getElem?_setIfInBounds]
      split
      · rw [if_pos (by omega)]; exact ⟨_, rfl⟩
      · exact ⟨x', hx'⟩
    · rw [Array.getElem?_setIfInBounds, if_neg (by omega)]
      exact hkv'
  refine ⟨q, r, x, rfl, h1, h2, (h4.cell _).trans hx, h4.frozen _, ⟨h.few, fun _ => ⟨q, r, c, rfl, h1, h2, h3, _, csr, hq, hr, key⟩⟩, kv, ?_, ?_⟩
  · rw [hq.cell, Array.getElem?_setIfInBounds, if_neg (by omega)]
    exact hkv
  · rcases hcase with hc | ⟨off, m, hc, hm, y, hy⟩
    · exact .inl hc
    · refine .inr ⟨off, m, y, hc, hm, (hr.cell _).trans hy, hr.frozen _, fun z' => ?_⟩
      refine ⟨h.few, fun _ => ⟨q, r, c, rfl, h1, h2, h3, _, _, hq.other h3 z', hr.set off z', fun j hj => ?_⟩⟩
      obtain ⟨hk1, kv', hkv', hc'⟩ := key j hj
      refine ⟨hk1, kv', hkv', ?_⟩
      rcases hc' with hc' | ⟨off', m', e1, e2, y', hy'⟩
      · exact .inl hc'
      · refine .inr ⟨off', m', e1, e2, ?_⟩
        rw [Array.getElem?_setIfInBounds]
        split
        · rw [if_pos (by have := (Array.getElem?_eq_some_iff.1 hy).1; omega)]; exact ⟨_, rfl⟩
        · exact ⟨y', hy'⟩
theorem BD.ch {W : World} {base bb q r cap total : Nat} {L : List (Nd × Value)} {u : Nat} (h : BD W base bb q r cap total L u) (hl : L.length ≤ 1000) : CH W base (.slice (some ⟨q, 0, none⟩) L.length cap) L.length := by
  refine ⟨hl, fun h0 => ?_⟩
  obtain ⟨csr, hr, hs, hk⟩ := h.room
  have hn := h.nodes
  rcases h.nodes.2 with ⟨hv, _⟩ | ⟨g, cap', cur, hv, hg, hh, h1, h2, h3, h4⟩
  · cases hv
  · injection hv with e1 _ e2
    injection e1 with e1
    injection e1 with e1 _ _
    subst e1
    subst e2
    have hq : Row W q 42 cur := hh
    have hsz : cur.size = cap * 3 := h3
    refine ⟨q, r, cap, rfl, hg, h.rb, row_apart hq hr (by decide), cur, csr, hq, hr, fun j hj => ?_⟩
    obtain ⟨p, hp⟩ : ∃ p, L[j]? = some p := ⟨_, List.getElem?_eq_getElem hj⟩
    have key : ∀ i, i < 3 → cur[j * 3 + i]? = (nodC p)[i]? := fun i hi => by
      rw [← hq.cell, World.ownsRow.cellAt hn (j * 3 + i) (by omega)]
      exact cellsN_get L j i p hp hi
    refine ⟨⟨_, key 0 (by omega)⟩, p.2, key 2 (by omega), ?_⟩
    rcases hk p (List.mem_of_getElem? hp) with ⟨_, e⟩ | ⟨off, e, hpos, hle, hc⟩
    · exact .inl e
    · refine .inr ⟨off, _, e, hpos, _, hc 0 _ (List.getElem?_eq_getElem hpos)⟩
/-- What a builder of trees answers, as a list that may be written into. -/
theorem OUT.ch {w W' : World} {e : Ending} {A : List Nd × Nat} (h : OUT w W' e A) (hA : A.1.length ≤ 1000) : ∃ a n c ev, e = .returned (.tuple #[.slice a n c, .int .i64 ev]) ∧ CH W' w.heap.size (.slice a n c) n ∧ NL W' (.slice a n c) A.1 ∧ (ev = 0 ∨ (ev = 70 ∧ n = 0)) := by
  rcases h with ⟨bb, q, r, cap, total, L, u, rfl, hB, rfl⟩ | ⟨rfl, rfl⟩
  · exact ⟨_, _, _, _, rfl, hB.ch (by rw [← List.length_map (f := (·.1))]; exact hA), hB.nl, .inl rfl⟩
  · exact ⟨_, _, _, _, rfl, CH.zero _ _ _, NL.nil _, .inr ⟨rfl, rfl⟩⟩
theorem moved_small {T : List Nd} {b : Int} (h : ∀ x ∈ T, x.kids.length ≤ 60 ∧ x.text.length ≤ 50) : ∀ x ∈ T.map (movN b), x.kids.length ≤ 60 ∧ x.text.length ≤ 50 := by
  intro x hx
  obtain ⟨y, hy, rfl⟩ := List.mem_map.1 hx
  exact ⟨by rw [mov_kids, List.length_map]; exact (h y hy).1, (h y hy).2⟩
theorem kidA_len (T : List Nd) (n : Int) : (kidA T n).1.length ≤ T.length := by
  unfold kidA
  split
  · show (kidL T _).length ≤ _
    unfold kidL
    rw [List.length_map, List.length_drop, List.length_take]
    omega
  · exact Nat.zero_le _
theorem joinA_len {k : Int} {X : List UInt8} {KS : List (List Nd)} : (joinA k X KS).1.length ≤ 400 := by
  by_cases h0 : (joinA k X KS).2 = 0
  · obtain ⟨h1, h2, _⟩ := joinA_ok h0
    rw [h1]
    exact h2.max
  · rw [joinA_no h0]
    exact Nat.zero_le _
theorem joinA_small {a : Int} {X : List UInt8} {KS : List (List Nd)} (hX : X.length ≤ 50) (hl : KS.length ≤ 4) (h : ∀ K ∈ KS, ∀ x ∈ K, x.kids.length ≤ 60 ∧ x.text.length ≤ 50) : ∀ x ∈ (joinA a X KS).1, x.kids.length ≤ 60 ∧ x.text.length ≤ 50 := by
  by_cases h0 : (joinA a X KS).2 = 0
  · obtain ⟨h1, _, _⟩ := joinA_ok h0
    rw [h1]
    exact join_small hX hl h
  · rw [joinA_no h0]
    intro x hx
    cases hx

set_option maxRecDepth 100000 in
set_option maxHeartbeats 4000000 in
theorem own_true (w : World) (hG : NG w) (a : Int) (s : ByteArray) (hs : s.size ≤ maxLen) (v : Value) (KS0 : List (List Nd)) (hv : LL w v KS0 ∧ ∀ K ∈ KS0, ∀ x ∈ K, x.text.length ≤ maxLen) :
    Calls Tryd.prog 7 #[.int .i64 a, .string s, v] w fun e W' => e = .returned (.bool true) ∧ Below w.heap.size w W' := by
  obtain ⟨ad, hE⟩ := hG
  obtain ⟨a0, c0, rfl, _, _⟩ := hv.1.form
  obtain ⟨n0, hn0⟩ : ∃ n, n = KS0.length := ⟨_, rfl⟩
  rw [← hn0] at hv ⊢
  have HE := Lib.hid hE
  have HV := Lib.hid hv
  obtain ⟨X, hX⟩ : ∃ X, X = cut5 s := ⟨_, rfl⟩
  have HXL : Hid (X.length ≤ 50) := Lib.hid (by rw [hX]; exact cut5_len s)
  obtain ⟨SX, hSX⟩ : ∃ B, B = bs X := ⟨_, rfl⟩
  have HSX := Lib.hid hSX
  have CS : Hid (∀ W, Calls Tryd.prog 21 #[.string s] W fun e W' => e = .returned (.string SX) ∧ W' = W) := Lib.hid (fun W => by rw [hSX, hX]; exact cut_c s hs W)
  clear hE hs hX hSX hv hn0
  go_enter Tryd.func7, Tryd.ntmps7
  go_wp2_with fail
  refine (shown_c w ad HE.out).mono ?_
  rintro e w1 ⟨rfl, hb1⟩
  have HB1 := Lib.hid hb1
  clear hb1
  go_wp2_with fail
  refine (some_c w1 _ KS0 (HV.out.1.below HB1.out) HV.out.2).mono ?_
  rintro e w2 ⟨hb2, l, M, rfl, hM, hKS⟩
  have HB2 := Lib.hid (HB1.out.trans (hb2.mono HB1.out.size))
  obtain ⟨KS, hKE⟩ : ∃ KS, KS = someN KS0 := ⟨_, rfl⟩
  have hL := hM.ll
  rw [hKS, ← hKE] at hL
  obtain ⟨la, lc, rfl⟩ := own_form hM.row
  have hKM : M.length = KS.length := by
    have := congrArg List.length hKS
    rw [List.length_map, ← hKE] at this
    exact this
  obtain ⟨ln, hln⟩ : ∃ n, n = M.length := ⟨_, rfl⟩
  rw [← hln] at hL ⊢
  have HLN : Hid (ln = KS.length) := Lib.hid (by rw [hln, hKM])
  have HL2 := Lib.hid hL
  have HKL : Hid (KS.length ≤ 4) := Lib.hid (by rw [hKE]; exact someN_len _)
  have HKS : Hid (∀ K ∈ KS, ∀ x ∈ K, x.kids.length ≤ 60 ∧ x.text.length ≤ 50) := Lib.hid (by rw [hKE]; exact fun K hK => (someN_small _ K hK).2)
  have HKA : Hid (someN KS = KS) := Lib.hid (by rw [hKE]; exact some_again _)
  clear hb2 hM hKS hKE hL hln hKM
  go_wp2_with fail
  refine (some_c w2 _ KS HL2.out (fun K hK x hx => by have := HKS.out K hK x hx; unfold maxLen; omega)).mono ?_
  rintro e w3 ⟨hb3, l, M, rfl, hM, hKS⟩
  have HB3 := Lib.hid (HB2.out.trans (hb3.mono HB2.out.size))
  have HL3 := Lib.hid (HL2.out.below hb3)
  have hW := hM.ll
  rw [hKS, HKA.out] at hW
  obtain ⟨wa, wc, rfl⟩ := own_form hM.row
  have hKM : M.length = KS.length := by
    have := congrArg List.length hKS
    rw [List.length_map, HKA.out] at this
    exact this
  rw [hKM, ← HLN.out] at hW ⊢
  have HW3 := Lib.hid hW
  have JX : Hid (∀ W, EN W ad → LL W (.slice la ln lc) KS → Calls Tryd.prog 23 #[.int .i64 a, .string SX, .slice la ln lc] W fun e W' => Below W.heap.size W W' ∧ OUT W W' e (joinA a X KS)) := Lib.hid (fun W h1 h2 => by rw [HSX.out]; exact pjoin_c W a X _ KS h2 (by have := HKL.out; omega) (by have := HXL.out; omega) (fun K hK x hx => by have := HKS.out K hK x hx; omega) ad h1)
  clear hb3 hM hKS hW hKM
  go_wp2_with fail
  refine (CS.out w3).mono ?_
  rintro e w3' ⟨rfl, rfl⟩
  go_wp2_with fail
  refine (JX.out w3' (HE.out.below HB3.out) HL3.out).mono ?_
  rintro e w4 ⟨hb4, ho4⟩
  have HB34 := Lib.hid hb4
  have HB4 := Lib.hid (HB3.out.trans (hb4.mono HB3.out.size))
  obtain ⟨ta, tn, tc, ev, rfl, hCT, hNT, hev⟩ := ho4.ch (Nat.le_trans joinA_len (by decide))
  obtain ⟨T, hT⟩ : ∃ T, T = (joinA a X KS).1 := ⟨_, rfl⟩
  have HTL : Hid (T.length ≤ 400) := Lib.hid (by rw [hT]; exact joinA_len)
  have HTS : Hid (∀ x ∈ T, x.kids.length ≤ 60 ∧ x.text.length ≤ 50) := Lib.hid (by rw [hT]; exact joinA_small HXL.out HKL.out HKS.out)
  rw [← hT] at hNT
  have HCT := Lib.hid hCT
  have HNT := Lib.hid hNT
  have HEV := Lib.hid hev
  clear hb4 ho4 hCT hNT hev hT
  go_wp2_with fail
  refine (own_c w4 _ T HNT.out (fun x hx => by have := HTS.out x hx; omega) (by have := HTL.out; omega)).mono ?_
  rintro e w5 ⟨hb5, u, UL, rfl, hU, hUL⟩
  have HB35 := Lib.hid (HB34.out.trans (hb5.mono HB34.out.size))
  have HB5 := Lib.hid (HB4.out.trans (hb5.mono HB4.out.size))
  have hNU := hU.nl
  rw [hUL] at hNU
  obtain ⟨ua, uc, rfl⟩ := own_form hU.row
  obtain ⟨un, hun⟩ : ∃ n, n = UL.length := ⟨_, rfl⟩
  rw [← hun] at hNU ⊢
  have HNU := Lib.hid hNU
  have HNT5 := Lib.hid (HNT.out.below hb5)
  have HCT5 := Lib.hid (HCT.out.below hb5)
  clear hb5 hU hUL hNU hun
  go_wp2_with fail
  refine (pkid_c w5 _ T 0 HNT5.out (fun x hx => by have := HTS.out x hx; omega) (fun x hx => by have := HTS.out x hx; omega) ad (HE.out.below HB5.out)).mono ?_
  rintro e w6 ⟨hb6, ho6⟩
  have HB56 := Lib.hid hb6
  obtain ⟨ka, kn, kc, fv, rfl, hCK, hNK, hfv⟩ := ho6.ch (Nat.le_trans (kidA_len T 0) (by have := HTL.out; omega))
  have HCK := Lib.hid hCK
  have HFV := Lib.hid hfv
  have hkn := hCK.few
  have htn := HCT.out.few
  clear hb6 ho6 hCK hNK hfv
  go_wp2
  go_loopw [14] (fun i wr => ∃ k : Nat, k ≤ kn ∧ i = .int .i64 k ∧ CH wr w5.heap.size (.slice ka kn kc) kn ∧ Below w5.heap.size w5 wr) (fun i _ => kn - (intOf i).toNat)
  case atStart => exact ⟨0, Nat.zero_le _, rfl, HCK.out, HB56.out⟩
  case round =>
    obtain ⟨k, hk, rfl, hC, hB⟩ := hrel
    have HC := Lib.hid hC
    have HB := Lib.hid hB
    clear hC hB
    by_cases hlt : k < kn
    · obtain ⟨q, r, x, ha, hq, hr, e0, f0, hC1, kv, e2, hkv⟩ := HC.out.kind hlt (.int .i64 99)
      subst ha
      have HC1 := Lib.hid hC1
      have HQ := Lib.hid hq
      have HR := Lib.hid hr
      clear hC1 hq hr
      rcases hkv with rfl | ⟨off, m, y, rfl, hm, e3, f3, hC2⟩
      · go_wp2
        go_roundw
        case rel => exact ⟨k + 1, by omega, by go_num, HC1.out, HB.out.setCell (p := ⟨q, k * 3, none⟩) HQ.out _⟩
        case measure => simp [intOf]; omega
      · have HC2 := Lib.hid (hC2 (.int .i64 99))
        clear hC2
        go_wp2
        go_roundw
        case rel => exact ⟨k + 1, by omega, by go_num, HC2.out, (HB.out.setCell (p := ⟨q, k * 3, none⟩) HQ.out _).setCell (p := ⟨r, off, none⟩) HR.out _⟩
        case measure => simp [intOf]; omega
    · obtain rfl : k = kn := by omega
      obtain ⟨w7, rfl⟩ : ∃ x, x = wr := ⟨_, rfl⟩
      have HB57 := Lib.hid HB.out
      have RS : Hid (Calls Tryd.prog 18 #[.slice ta tn tc, .slice ua un uc] w7 fun e W' => e = .returned (.bool true) ∧ Below w7.heap.size w7 W') := Lib.hid (by
        have := rsame_c _ _ T T w7 (HNT5.out.below HB57.out) (HNU.out.below HB57.out)
        rw [decide_eq_true rfl] at this
        exact this)
      go_wp2_with fail
      refine RS.out.mono ?_
      rintro e w8 ⟨rfl, hb8⟩
      have HB58 := Lib.hid (HB57.out.trans (hb8.mono HB57.out.size))
      have HB38 := Lib.hid (HB35.out.trans (HB58.out.mono HB35.out.size))
      have HCT8 := Lib.hid (HCT5.out.below HB58.out)
      clear hb8 HC HB
      go_wp2
      go_loopw [16] (fun i wr => ∃ k : Nat, k ≤ tn ∧ i = .int .i64 k ∧ CH wr w3'.heap.size (.slice ta tn tc) tn ∧ Below w3'.heap.size w3' wr) (fun i _ => tn - (intOf i).toNat)
      case atStart => exact ⟨0, Nat.zero_le _, rfl, HCT8.out, HB38.out⟩
      case round =>
        obtain ⟨k, hk, rfl, hC, hB⟩ := hrel
        have HC := Lib.hid hC
        have HB := Lib.hid hB
        clear hC hB
        by_cases hlt : k < tn
        · obtain ⟨q, r, x, ha, hq, hr, e0, f0, hC1, kv, e2, hkv⟩ := HC.out.kind hlt (.int .i64 99)
          subst ha
          have HC1 := Lib.hid hC1
          have HQ := Lib.hid hq
          have HR := Lib.hid hr
          clear hC1 hq hr
          rcases hkv with rfl | ⟨off, m, y, rfl, hm, e3, f3, hC2⟩
          · go_wp2
            go_roundw
            case rel => exact ⟨k + 1, by omega, by go_num, HC1.out, HB.out.setCell (p := ⟨q, k * 3, none⟩) HQ.out _⟩
            case measure => simp [intOf]; omega
          · have HC2 := Lib.hid (hC2 (.int .i64 99))
            clear hC2
            go_wp2
            go_roundw
            case rel => exact ⟨k + 1, by omega, by go_num, HC2.out, (HB.out.setCell (p := ⟨q, k * 3, none⟩) HQ.out _).setCell (p := ⟨r, off, none⟩) HR.out _⟩
            case measure => simp [intOf]; omega
        · obtain rfl : k = tn := by omega
          obtain ⟨w9, rfl⟩ : ∃ x, x = wr := ⟨_, rfl⟩
          have HB39 := Lib.hid HB.out
          have hln4 : ln ≤ 4 := by have := HLN.out; have := HKL.out; omega
          clear HC HB
          go_wp2
          go_loopw [17] (fun i wr => ∃ k : Nat, k ≤ ln ∧ i = .int .i64 k ∧ Below w3'.heap.size w3' wr) (fun i _ => ln - (intOf i).toNat)
          case atStart => exact ⟨0, Nat.zero_le _, rfl, HB39.out⟩
          case round =>
            obtain ⟨k, hk, rfl, hB⟩ := hrel
            have HB := Lib.hid hB
            by_cases hlt : k < ln
            · obtain ⟨K, hK⟩ : ∃ x, KS[k]? = some x := ⟨_, List.getElem?_eq_getElem (by rw [← HLN.out]; exact hlt)⟩
              obtain ⟨g, o, lc', hlv, hg, hcs⟩ := HL3.out.cells (by rw [← HLN.out]; omega)
              obtain rfl : la = some ⟨g, o, none⟩ := by injection hlv
              obtain ⟨u1, hu1, hN1⟩ := hcs k K hK
              obtain ⟨g2, o2, lc2, hlv2, hg2, hcs2⟩ := HW3.out.cells (by rw [← HLN.out]; omega)
              obtain rfl : wa = some ⟨g2, o2, none⟩ := by injection hlv2
              obtain ⟨u2, hu2, hN2⟩ := hcs2 k K hK
              have e1 := (hB.cell (p := ⟨g, o + k, none⟩) hg).trans hu1
              have e2 := (hB.cell (p := ⟨g2, o2 + k, none⟩) hg2).trans hu2
              have SM : Hid (∀ W, Below w3'.heap.size w3' W → Calls Tryd.prog 18 #[u1, u2] W fun e W' => e = .returned (.bool true) ∧ Below W.heap.size W W') := Lib.hid (fun W h => by have := rsame_c u1 u2 K K W (hN1.below h) (hN2.below h); rw [decide_eq_true rfl] at this; exact this)
              obtain ⟨ua1, uc1, hf1, _, _⟩ := hN1.form
              obtain ⟨ua2, uc2, hf2, _, _⟩ := hN2.form
              obtain ⟨nk, hnk⟩ : ∃ n, n = K.length := ⟨_, rfl⟩
              rw [← hnk] at hf1 hf2
              subst hf1
              subst hf2
              clear hK hlv hlv2 hcs hcs2 hu1 hu2 hN1 hN2 hnk hB
              go_wp2_with fail
              go_region_with (go_at_call 18; refine (SM.out _ (by first | exact HB.out | exact HB.out.drew)).mono ?_; rintro e w10 ⟨rfl, hb10⟩; have HB10 := Lib.hid (HB.out.drew.trans (hb10.mono HB.out.drew.size)); clear hb10)
              all_goals
                go_wp2
                go_roundw
                case rel => exact ⟨k + 1, by omega, by go_num, by first | exact HB10.out | exact HB10.out.drew⟩
                case measure => simp [intOf]; omega
            · obtain rfl : k = ln := by omega
              have HF := Lib.hid (HB3.out.trans (HB.out.mono HB3.out.size))
              rcases HEV.out with rfl | ⟨rfl, rfl⟩
              · rcases HFV.out with rfl | ⟨rfl, rfl⟩
                · go_wp2
                  go_ret
                  exact ⟨rfl, HF.out⟩
                · go_wp2
                  go_ret
                  exact ⟨rfl, HF.out⟩
              · rcases HFV.out with rfl | ⟨rfl, rfl⟩
                · go_wp2
                  go_ret
                  exact ⟨rfl, HF.out⟩
                · go_wp2
                  go_ret
                  exact ⟨rfl, HF.out⟩
end Go.Proofs.YtbegplfijjbpcaaDoor.No
