/- The plain Right: is it a tree. -/
import Derived.Test.YtbegplfijjbpcaaDoorNoOne
import Derived.Laws.MakeOwn
namespace Go.Proofs.YtbegplfijjbpcaaDoor.No
open Go Go.RowKit Go.Shelf
attribute [local go_sem] Oper.semAt_some

/-! ### Kids, one by one -/
def lastL (d : Int) (l : List Int) : Int := l.getLast?.getD d
theorem lastL_snoc (d : Int) (l : List Int) (a : Int) : lastL d (l ++ [a]) = a := by simp [lastL]
theorem rise_snoc (i : Int) : ∀ (l : List Int) (d a : Int), riseB i d (l ++ [a]) = (riseB i d l && decide (lastL d l < a) && decide (a < i))
  | [], d, a => by
    show (decide (d < a) && decide (a < i) && true) = (true && decide (d < a) && decide (a < i))
    rw [Bool.and_true, Bool.true_and]
  | b :: r, d, a => by
    show (decide (d < b) && decide (b < i) && riseB i b (r ++ [a])) = (decide (d < b) && decide (b < i) && riseB i b r && _ && _)
    rw [rise_snoc i r b a]
    have : lastL d (b :: r) = lastL b r := by
      unfold lastL
      cases r with
      | nil => rfl
      | cons c r =>
        rw [List.getLast?_cons]
        simp [List.getLast?_cons]
    rw [this]
    simp only [Bool.and_assoc]
theorem rise_app (i : Int) : ∀ (l m : List Int) (d : Int), riseB i d (l ++ m) = true → riseB i d l = true
  | [], _, _, _ => rfl
  | b :: r, m, d, h => by
    simp only [List.cons_append, riseB, Bool.and_eq_true] at h ⊢
    exact ⟨h.1, rise_app i r m b h.2⟩
theorem lastL_ge {i : Int} {l : List Int} (h : riseB i (-1) l = true) : -1 ≤ lastL (-1) l := by
  unfold lastL
  cases hl : l.getLast? with
  | none => exact Int.le_refl _
  | some x =>
    have := rise_mem h x (List.mem_of_getLast? hl)
    show -1 ≤ x
    omega
/-! ### How many times each place is a kid -/
def cntP (n : Nat) (P : List Int) : List Int := (List.range n).map fun j => ((P.count ((j : Nat) : Int) : Nat) : Int)
theorem cntP_len (n : Nat) (P : List Int) : (cntP n P).length = n := by simp [cntP]
theorem cntP_at {n : Nat} (P : List Int) {j : Nat} (h : j < n) : (cntP n P)[j]? = some ((P.count ((j : Nat) : Int) : Nat) : Int) := by simp [cntP, h]
theorem cntP_snoc (n : Nat) (P : List Int) (m : Nat) : cntP n (P ++ [((m : Nat) : Int)]) = (cntP n P).set m (((P.count ((m : Nat) : Int) : Nat) : Int) + 1) := by
  apply List.ext_getElem?
  intro k
  rw [List.getElem?_set, cntP_len]
  by_cases hk : k < n
  · rw [cntP_at _ hk, List.count_append]
    by_cases hm : m = k
    · subst hm
      rw [if_pos rfl, if_pos hk]
      simp
    · rw [if_neg hm, cntP_at _ hk]
      have : ([((m : Nat) : Int)] : List Int).count ((k : Nat) : Int) = 0 := by
        rw [List.count_eq_zero]
        simp
        omega
      rw [this]
      rfl
  · rw [List.getElem?_eq_none (by rw [cntP_len]; omega)]
    split
    · rw [if_neg (by omega)]
    · rw [List.getElem?_eq_none (by rw [cntP_len]; omega)]
theorem count_le (P : List Int) (j : Int) : P.count j ≤ P.length := List.count_le_length
def seenP (T : List Nd) (i k : Nat) : List Int := allKids (T.take i) ++ (match T[i]? with | some x => x.kids.take k | none => [])
theorem seenP_zero (T : List Nd) (i : Nat) : seenP T i 0 = allKids (T.take i) := by
  unfold seenP
  cases T[i]? <;> simp
theorem seenP_succ {T : List Nd} {i k : Nat} {x : Nd} {a : Int} (hx : T[i]? = some x) (ha : x.kids[k]? = some a) : seenP T i (k + 1) = seenP T i k ++ [a] := by
  unfold seenP
  rw [hx]
  show _ ++ x.kids.take (k + 1) = (_ ++ x.kids.take k) ++ [a]
  rw [List.take_add_one, ha, List.append_assoc]
  rfl
theorem seenP_all {T : List Nd} {i : Nat} {x : Nd} (hx : T[i]? = some x) : seenP T i x.kids.length = allKids (T.take (i + 1)) := by
  unfold seenP allKids
  rw [hx, List.take_add_one, hx]
  simp
theorem seenP_len {T : List Nd} (i k : Nat) : (seenP T i k).length ≤ (allKids T).length := by
  unfold seenP
  cases hx : T[i]? with
  | none =>
    rw [List.append_nil]
    have : allKids T = allKids (T.take i) ++ allKids (T.drop i) := by unfold allKids; rw [← List.flatMap_append, List.take_append_drop]
    rw [this, List.length_append]
    omega
  | some x =>
    have e : allKids T = allKids (T.take i) ++ (x.kids ++ allKids (T.drop (i + 1))) := by
      have hi : i < T.length := (List.getElem?_eq_some_iff.1 hx).1
      have h2 : T.drop i = x :: T.drop (i + 1) := by
        rw [List.drop_eq_getElem_cons hi]
        congr 1
        exact (List.getElem?_eq_some_iff.1 hx).2
      have h3 : allKids (T.drop i) = x.kids ++ allKids (T.drop (i + 1)) := by rw [h2]; rfl
      rw [← h3]
      unfold allKids
      rw [← List.flatMap_append, List.take_append_drop]
    rw [e, List.length_append, List.length_append, List.length_append, List.length_take]
    omega
theorem made_at {m k : Nat} (h : k < m) : (madeCells (Value.int .i64 0).cells m).toList[k]? = some (Value.int .i64 0) := by
  unfold madeCells
  rw [Array.getElem?_toList, Array.getElem?_map, Array.getElem?_range, if_pos h]
  show some ((Value.int .i64 0).cells[k % (Value.int .i64 0).cells.size]!) = _
  have : (Value.int .i64 0).cells.size = 1 := rfl
  rw [this, Nat.mod_one]
  rfl
theorem right_no {T : List Nd} (h : ¬ RightT T) : rightB T = false := by
  cases e : rightB T with
  | false => rfl
  | true => exact absurd ((right_iff T).1 e) h

set_option maxHeartbeats 16000000 in
set_option maxRecDepth 100000 in
/-- Right(t), of no list that is too long. -/
theorem right_ok (v : Value) (T : List Nd) (w : World) (hT : NL w v T) (hp : 1 ≤ T.length) (hm : T.length ≤ 400) (hk : (allKids T).length ≤ 1000000) :
    Calls Tryd.prog 12 #[v] w fun e W' => e = .returned (.bool (rightB T)) ∧ Below w.heap.size w W' := by
  obtain ⟨a0, c0, rfl, hc1, hc2⟩ := hT.form
  unfold maxLen at hc2
  obtain ⟨i0, hi, hz0, hz1, hz2⟩ := infoI
  obtain ⟨g, o, c1, hv, hg, hcs⟩ := hT.cells (by omega)
  obtain rfl : a0 = some ⟨g, o, none⟩ := by injection hv
  obtain ⟨n, hn⟩ : ∃ n, n = T.length := ⟨_, rfl⟩
  rw [← hn] at hc1 hp hm ⊢
  have HN := Lib.hid hn
  obtain ⟨W0, hW0⟩ : ∃ W0, W0 = w.alloc (.cells (madeCells (Value.int .i64 0).cells (n * 1)) 3) := ⟨_, rfl⟩
  have hmk : (Instr.makeSlice 40 (.int .i64 (n : Int)) (.int .i64 (n : Int))).run Tryd.prog w = .ok (.slice (some ⟨w.heap.size, 0, none⟩) n n) W0 := by
    have h := run_make (P := Tryd.prog) w 40 3 i0 _ Tryd.underlying40 hi hz0 .i64 .i64 (n : Int) (n : Int) (by omega) (by omega) (by rw [hz2]; omega) (by omega)
    rw [hz1] at h
    rw [hW0]
    exact h
  have hown : IOwn W0 w.heap.size (.slice (some ⟨w.heap.size, 0, none⟩) n n) (cntP n []) := by
    have hl := cntP_len n []
    show World.ownsRow _ _ _ _ _ _ _
    rw [hl]
    refine ⟨by rw [nums_len, hl]; omega, .inr ⟨_, n, _, rfl, Nat.le_refl _, by rw [hW0]; exact World.alloc_heap_new w _, Nat.le_refl _, by unfold maxLen; omega, by rw [size_madeCells], ?_⟩⟩
    apply List.ext_getElem?
    intro k
    rw [List.getElem?_take]
    by_cases hk : k < n * 1
    · rw [if_pos hk]
      have h2 : (nums (cntP n []))[k]? = some (.int .i64 0) := nums_at (by rw [cntP_at _ (by omega)]; rfl)
      rw [h2]
      exact made_at (by omega)
    · rw [if_neg hk, List.getElem?_eq_none (by rw [nums_len, cntP_len]; omega)]
  have hb0 : Below w.heap.size w W0 := by rw [hW0]; exact (Below.refl _ w).alloc (Nat.le_refl _) _
  have HT := Lib.hid hT
  have HCS := Lib.hid hcs
  have HOWN := Lib.hid hown
  have HB0 := Lib.hid hb0
  have HKL := Lib.hid hk
  obtain ⟨R, hR⟩ : ∃ R, R = rightB T := ⟨_, rfl⟩
  have HR := Lib.hid hR
  rw [← hR]
  have t1 : ¬ (n : Int) < 1 := by omega
  have t2 : ¬ (400 : Int) < (n : Int) := by omega
  clear hT hcs hown hb0 hn hv hW0 hk hR
  go_enter Tryd.func12, Tryd.ntmps12
  go_wp2
  go_loopw [4] (fun i wr => ∃ k : Nat, k ≤ n ∧ i = .int .i64 k ∧ Below w.heap.size w wr ∧ IOwn wr w.heap.size (.slice (some ⟨w.heap.size, 0, none⟩) n n) (cntP n (allKids (T.take k))) ∧ nodesB T k = true) (fun i _ => n - (intOf i).toNat)
  case atStart => exact ⟨0, Nat.zero_le _, rfl, HB0.out, HOWN.out, rfl⟩
  case round =>
    obtain ⟨i, hi2, rfl, hB, hO, hnd⟩ := hrel
    have HB := Lib.hid hB
    have HO := Lib.hid hO
    have HND := Lib.hid hnd
    clear hO hnd
    by_cases hlt : i < n
    · obtain ⟨x, hx⟩ : ∃ x, T[i]? = some x := ⟨_, List.getElem?_eq_getElem (by rw [← HN.out]; exact hlt)⟩
      have HX := Lib.hid hx
      obtain ⟨y0, y1, kx, y2, xk0⟩ := HCS.out i x hx
      have xk := xk0.below hB
      have HF := Lib.hid (form_c x kx wr xk)
      obtain ⟨ka, kc, rfl, hl1, hl2⟩ := xk.form
      have HKX := Lib.hid xk0
      have hK : x.kids.length ≤ (allKids T).length := by
        have := seenP_len (T := T) i x.kids.length
        unfold seenP at this
        rw [hx] at this
        simp only [List.length_append, List.take_length] at this
        omega
      have hK2 : x.kids.length ≤ 1000000 := by have := HKL.out; omega
      obtain ⟨K, hKK⟩ : ∃ K, K = x.kids.length := ⟨_, rfl⟩
      have HKK := Lib.hid hKK
      have HCX : Hid (∀ W, Below w.heap.size w W → W.cell? ⟨g, o + i * 3, none⟩ = some (.int .i64 x.kind) ∧ W.cell? ⟨g, o + i * 3 + 1, none⟩ = some (.string (bs x.text)) ∧ W.cell? ⟨g, o + i * 3 + 2, none⟩ = some (.slice ka K kc)) := Lib.hid (fun W hW => by
        rw [hKK]
        exact ⟨(hW.cell (p := ⟨g, o + i * 3, none⟩) hg).trans y0, (hW.cell (p := ⟨g, o + i * 3 + 1, none⟩) hg).trans y1, (hW.cell (p := ⟨g, o + i * 3 + 2, none⟩) hg).trans y2⟩)
      rw [← hKK] at hK2 hl1 HF HKX
      unfold maxLen at hl2
      obtain ⟨bf, hbf⟩ : ∃ b, b = formB x := ⟨_, rfl⟩
      rw [← hbf] at HF
      have HBF := Lib.hid hbf
      obtain ⟨p1, hp1⟩ : ∃ p, p = x.kind := ⟨_, rfl⟩
      obtain ⟨p2, hp2⟩ : ∃ p, p = bs x.text := ⟨_, rfl⟩
      rw [← hp1, ← hp2] at HF HCX
      obtain ⟨x0, x1, x2⟩ := HCX.out wr hB
      clear hB hx xk xk0 hK hKK hbf hp1 hp2 y0 y1 y2
      go_wp2_with fail
      refine HF.out.mono ?_
      rintro e w2 ⟨rfl, hb2⟩
      have HB2 := Lib.hid (HB.out.trans (hb2.mono HB.out.size))
      have HO2 := Lib.hid (own_kept HO.out hb2)
      have HS2 := Lib.hid hb2
      clear hb2
      cases bf with
      | false =>
        have HRF : Hid (R = false) := Lib.hid (by
          rw [HR.out]
          refine right_no (fun h => ?_)
          have := (h.node i x HX.out).1
          rw [← HBF.out] at this
          cases this)
        go_wp2
        go_ret
        exact ⟨by rw [HRF.out]; rfl, HB2.out⟩
      | true =>
        go_wp2
        go_loopw [5, 6, 7] (fun last k _ w' => ∃ j : Nat, j ≤ K ∧ k = .int .i64 j ∧ last = .int .i64 (lastL (-1) (x.kids.take j)) ∧ riseB (i : Int) (-1) (x.kids.take j) = true ∧ Below w.heap.size w w' ∧ IOwn w' w.heap.size (.slice (some ⟨w.heap.size, 0, none⟩) n n) (cntP n (seenP T i j))) (fun _ k _ _ => K - (intOf k).toNat)
        case atStart => exact ⟨0, Nat.zero_le _, rfl, rfl, rfl, HB2.out, by rw [seenP_zero]; exact HO2.out⟩
        case round =>
          obtain ⟨j, hj, rfl, rfl, hri, hB3, hO3⟩ := hrel
          have HB3 := Lib.hid hB3
          have HO3 := Lib.hid hO3
          have HRI := Lib.hid hri
          obtain ⟨z0, z1, z2⟩ := HCX.out wr hB3
          by_cases hjK : j < K
          · obtain ⟨gk, ok, ck, hv, hgk, hck⟩ := HKX.out.cells (by rw [← HKK.out]; omega)
            rw [← HKK.out] at hv
            obtain rfl : ka = some ⟨gk, ok, none⟩ := by injection hv
            obtain ⟨a, ha⟩ : ∃ a, x.kids[j]? = some a := ⟨_, List.getElem?_eq_getElem (by rw [← HKK.out]; exact hjK)⟩
            have e1 := (hB3.cell (p := ⟨gk, ok + j, none⟩) hgk).trans (hck j a ha)
            have hge := lastL_ge hri
            obtain ⟨L, hL⟩ : ∃ L, L = lastL (-1) (x.kids.take j) := ⟨_, rfl⟩
            rw [← hL] at hge ⊢
            have htk : x.kids.take (j + 1) = x.kids.take j ++ [a] := by rw [List.take_add_one, ha]; rfl
            have hrs := rise_snoc (i : Int) (x.kids.take j) (-1) a
            rw [hri, ← htk, ← hL, Bool.true_and] at hrs
            have HBAD : Hid (¬ (L < a ∧ a < (i : Int)) → R = false) := Lib.hid (fun hbad => by
              rw [HR.out]
              refine right_no (fun h => ?_)
              have h1 := (h.node i x HX.out).2
              have h2 : riseB (i : Int) (-1) (x.kids.take (j + 1)) = true := rise_app _ _ (x.kids.drop (j + 1)) _ (by rw [List.take_append_drop]; exact h1)
              rw [hrs] at h2
              simp only [Bool.and_eq_true, decide_eq_true_eq] at h2
              exact hbad h2)
            have HRS := Lib.hid hrs
            have HTK := Lib.hid htk
            have HAA := Lib.hid ha
            clear hv hgk hck htk hrs ha hri hL hO3
            by_cases h1 : a ≤ L
            · have HRF := Lib.hid (HBAD.out (by omega))
              clear hB3 hge
              go_wp2
              go_ret
              exact ⟨by rw [HRF.out]; rfl, HB3.out⟩
            · by_cases h2 : (i : Int) ≤ a
              · have HRF := Lib.hid (HBAD.out (by omega))
                clear hB3 hge
                go_wp2
                go_ret
                exact ⟨by rw [HRF.out]; rfl, HB3.out⟩
              · obtain ⟨m, rfl⟩ : ∃ m : Nat, a = (m : Int) := ⟨a.toNat, by omega⟩
                have hmn : m < n := by omega
                have hcn : ((seenP T i j).count (m : Int)) ≤ 1000000 := by
                  have q1 := count_le (seenP T i j) (m : Int)
                  have q2 := seenP_len (T := T) i j
                  have q3 := HKL.out
                  omega
                have hO4 := HO3.out
                have hc4 : wr.cell? ⟨w.heap.size, m, none⟩ = some (.int .i64 (((seenP T i j).count (m : Int) : Nat) : Int)) := by
                  have hl := cntP_len n (seenP T i j)
                  change World.ownsRow _ _ _ _ _ _ _ at hO4
                  rw [hl] at hO4
                  rw [World.ownsRow.cellAt hO4 m (by omega)]
                  exact nums_at (cntP_at _ hmn)
                have hf4 : wr.frozen? ⟨w.heap.size, m, none⟩ = false := by
                  have h9 := HO3.out
                  rcases h9.2 with ⟨h', _⟩ | ⟨g', cap', cur, h', _, hh, _⟩
                  · cases h'
                  · injection h' with h' _ _
                    injection h' with h'
                    injection h' with h' _ _
                    subst h'
                    exact (show Row wr w.heap.size 3 cur from hh).frozen m
                obtain ⟨cc, hcc⟩ : ∃ c, c = (seenP T i j).count (m : Int) := ⟨_, rfl⟩
                rw [← hcc] at hc4 hcn
                have HCC := Lib.hid hcc
                have HNEW : Hid (IOwn (wr.setCell ⟨w.heap.size, m, none⟩ (.int .i64 ((cc : Int) + 1))) w.heap.size (.slice (some ⟨w.heap.size, 0, none⟩) n n) (cntP n (seenP T i (j + 1)))) := Lib.hid (by
                  have hl := cntP_len n (seenP T i j)
                  change World.ownsRow _ _ _ _ _ _ _ at hO4
                  rw [hl] at hO4
                  have h9 := (hO4.stored m (.int .i64 ((cc : Int) + 1))).1
                  rw [seenP_succ HX.out HAA.out, cntP_snoc, ← hcc]
                  show World.ownsRow _ _ _ _ _ _ _
                  rw [List.length_set, hl]
                  have h8 : nums ((cntP n (seenP T i j)).set m ((cc : Int) + 1)) = (nums (cntP n (seenP T i j))).set m (.int .i64 ((cc : Int) + 1)) := by simp [nums, List.map_set]
                  rw [h8]
                  exact h9)
                have hla : ¬ (m : Int) ≤ L := h1
                have hlb : ¬ (i : Int) ≤ (m : Int) := h2
                have hlc : (m : Int) < (n : Int) := by omega
                clear hB3 hO4 hcc hge h1 h2
                go_wp2
                go_roundw
                case rel =>
                  refine ⟨j + 1, by omega, by go_num, by rw [HTK.out, lastL_snoc], ?_, HB3.out.setCell (Nat.le_refl _) _, HNEW.out⟩
                  rw [HRS.out]
                  simp only [Bool.and_eq_true, decide_eq_true_eq]
                  omega
                case measure => simp [intOf]; omega
          · obtain rfl : j = K := by omega
            have HNX : Hid (nodesB T (i + 1) = true) := Lib.hid (by
              simp only [nodesB, HND.out, Bool.true_and, HX.out]
              unfold nodeB
              rw [← HBF.out, Bool.true_and]
              have h9 := hri
              rw [HKK.out, List.take_length] at h9
              exact h9)
            have HOX : Hid (IOwn wr w.heap.size (.slice (some ⟨w.heap.size, 0, none⟩) n n) (cntP n (allKids (T.take (i + 1))))) := Lib.hid (by
              have h9 := hO3
              rw [HKK.out, seenP_all HX.out] at h9
              exact h9)
            clear hri hB3 hO3
            go_wp2
            go_roundw
            case rel => exact ⟨i + 1, by omega, by go_num, HB3.out, HOX.out, HNX.out⟩
            case measure => simp [intOf]; omega
    · obtain rfl : i = n := by omega
      have hall : IOwn wr w.heap.size (.slice (some ⟨w.heap.size, 0, none⟩) i i) (cntP i (allKids T)) := by
        have h9 := HO.out
        rw [HN.out, List.take_length] at h9
        rw [HN.out]
        exact h9
      have HALL := Lib.hid hall
      clear hall hB
      go_wp2
      go_loopw [8] (fun k w' => ∃ j : Nat, j + 1 ≤ i ∧ k = .int .i64 j ∧ w' = wr ∧ onceB T j = true) (fun k _ => i - (intOf k).toNat)
      case atStart => exact ⟨0, by omega, rfl, rfl, rfl⟩
      case round =>
        obtain ⟨j, hj, rfl, hw, hon⟩ := hrel
        subst hw
        by_cases hlt2 : j + 1 < i
        · have hc4 : wr.cell? ⟨w.heap.size, j, none⟩ = some (.int .i64 (((allKids T).count (j : Int) : Nat) : Int)) := by
            have h9 := HALL.out
            have hl := cntP_len i (allKids T)
            change World.ownsRow _ _ _ _ _ _ _ at h9
            rw [hl] at h9
            rw [World.ownsRow.cellAt h9 j (by omega)]
            exact nums_at (cntP_at _ (by omega))
          obtain ⟨cc, hcc⟩ : ∃ c, c = (allKids T).count (j : Int) := ⟨_, rfl⟩
          rw [← hcc] at hc4
          have HON := Lib.hid hon
          have hl1 : (j : Int) + 1 < (i : Int) := by omega
          by_cases h1 : cc = 1
          · have HOX : Hid (onceB T (j + 1) = true) := Lib.hid (by
              simp only [onceB, HON.out, Bool.true_and]
              rw [← hcc, h1]
              rfl)
            subst h1
            clear hon hcc
            go_wp2
            go_roundw
            case rel => exact ⟨j + 1, by omega, by go_num, trivial, HOX.out⟩
            case measure => simp [intOf]; omega
          · have HRF : Hid (R = false) := Lib.hid (by
              rw [HR.out]
              refine right_no (fun h => ?_)
              have := h.once j (by rw [← HN.out]; exact hlt2)
              rw [← hcc] at this
              exact h1 this)
            have t3 : ((cc : Int) != 1) = true := by simp; omega
            clear hon hcc h1
            go_wp2
            go_ret
            exact ⟨by rw [HRF.out]; rfl, HB.out⟩
        · have HRT : Hid (R = true) := Lib.hid (by
            rw [HR.out]
            simp only [rightB, Bool.and_eq_true, decide_eq_true_eq]
            refine ⟨⟨⟨by rw [← HN.out]; omega, by rw [← HN.out]; omega⟩, by rw [← HN.out]; exact HND.out⟩, ?_⟩
            rw [← HN.out, show i - 1 = j by omega]
            exact hon)
          have hl1 : ¬ (j : Int) + 1 < (i : Int) := by omega
          clear hon
          go_wp2
          go_ret
          exact ⟨by rw [HRT.out]; rfl, HB.out⟩
end Go.Proofs.YtbegplfijjbpcaaDoor.No
