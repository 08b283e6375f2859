/- Merged by gen/nq_merge.py: NoRight, NoDeep, NoDig, NoWord, NoShowM, NoShow. -/
import Derived.Test.YtbegplfijjbpcaaDoorNoA
import Derived.Laws.MakeOwn
import Derived.Laws.IdiomStrings
import Derived.Lib.AppendStr
import Derived.Lib.BufferWrite
import Derived.Lib.BufferRead
/- The plain Right: is it a tree. -/
namespace Go.Proofs.YtbegplfijjbpcaaDoor.No
open Go Go.RowKit Go.Shelf
attribute [local go_sem] Oper.semAt_some

/-! ### Kids, one by one -/
def lastL (d : Int) (l : List Int) : Int := l.getLast?.getD d
theorem lastL_snoc (d : Int) (l : List Int) (a : Int) : lastL d (l ++ [a]) = a := by simp [lastL]
theorem rise_snoc (i : Int) : ∀ (l : List Int) (d a : Int), riseB i d (l ++ [a]) = (riseB i d l && decide (lastL d l < a) && decide (a < i))
  | [], d, a => by
    show (decide (d < a) && decide (a < i) && true) = (true && decide (d < a) && decide (a < i))
    rw [Bool.and_true, Bool.true_and]
  | b :: r, d, a => by
    show (decide (d < b) && decide (b < i) && riseB i b (r ++ [a])) = (decide (d < b) && decide (b < i) && riseB i b r && _ && _)
    rw [rise_snoc i r b a]
    have : lastL d (b :: r) = lastL b r := by
      unfold lastL
      cases r with
      | nil => rfl
      | cons c r =>
        rw [List.getLast?_cons]
        simp [List.getLast?_cons]
    rw [this]
    simp only [Bool.and_assoc]
theorem rise_app (i : Int) : ∀ (l m : List Int) (d : Int), riseB i d (l ++ m) = true → riseB i d l = true
  | [], _, _, _ => rfl
  | b :: r, m, d, h => by
    simp only [List.cons_append, riseB, Bool.and_eq_true] at h ⊢
    exact ⟨h.1, rise_app i r m b h.2⟩
theorem lastL_ge {i : Int} {l : List Int} (h : riseB i (-1) l = true) : -1 ≤ lastL (-1) l := by
  unfold lastL
  cases hl : l.getLast? with
  | none => exact Int.le_refl _
  | some x =>
    have := rise_mem h x (List.mem_of_getLast? hl)
    show -1 ≤ x
    omega
/-! ### How many times each place is a kid -/
def cntP (n : Nat) (P : List Int) : List Int := (List.range n).map fun j => ((P.count ((j : Nat) : Int) : Nat) : Int)
theorem cntP_len (n : Nat) (P : List Int) : (cntP n P).length = n := by simp [cntP]
theorem cntP_at {n : Nat} (P : List Int) {j : Nat} (h : j < n) : (cntP n P)[j]? = some ((P.count ((j : Nat) : Int) : Nat) : Int) := by simp [cntP, h]
theorem cntP_snoc (n : Nat) (P : List Int) (m : Nat) : cntP n (P ++ [((m : Nat) : Int)]) = (cntP n P).set m (((P.count ((m : Nat) : Int) : Nat) : Int) + 1) := by
  apply List.ext_getElem?
  intro k
  rw [List.getElem?_set, cntP_len]
  by_cases hk : k < n
  · rw [cntP_at _ hk, List.count_append]
    by_cases hm : m = k
    · subst hm
      rw [if_pos rfl, if_pos hk]
      simp
    · rw [if_neg hm, cntP_at _ hk]
      have : ([((m : Nat) : Int)] : List Int).count ((k : Nat) : Int) = 0 := by
        rw [List.count_eq_zero]
        simp
        omega
      rw [this]
      rfl
  · rw [List.getElem?_eq_none (by rw [cntP_len]; omega)]
    split
    · rw [if_neg (by omega)]
    · rw [List.getElem?_eq_none (by rw [cntP_len]; omega)]
theorem count_le (P : List Int) (j : Int) : P.count j ≤ P.length := List.count_le_length
def seenP (T : List Nd) (i k : Nat) : List Int := allKids (T.take i) ++ (match T[i]? with | some x => x.kids.take k | none => [])
theorem seenP_zero (T : List Nd) (i : Nat) : seenP T i 0 = allKids (T.take i) := by
  unfold seenP
  cases T[i]? <;> simp
theorem seenP_succ {T : List Nd} {i k : Nat} {x : Nd} {a : Int} (hx : T[i]? = some x) (ha : x.kids[k]? = some a) : seenP T i (k + 1) = seenP T i k ++ [a] := by
  unfold seenP
  rw [hx]
  show _ ++ x.kids.take (k + 1) = (_ ++ x.kids.take k) ++ [a]
  rw [List.take_add_one, ha, List.append_assoc]
  rfl
theorem seenP_all {T : List Nd} {i : Nat} {x : Nd} (hx : T[i]? = some x) : seenP T i x.kids.length = allKids (T.take (i + 1)) := by
  unfold seenP allKids
  rw [hx, List.take_add_one, hx]
  simp
theorem seenP_len {T : List Nd} (i k : Nat) : (seenP T i k).length ≤ (allKids T).length := by
  unfold seenP
  cases hx : T[i]? with
  | none =>
    rw [List.append_nil]
    have : allKids T = allKids (T.take i) ++ allKids (T.drop i) := by unfold allKids; rw [← List.flatMap_append, List.take_append_drop]
    rw [this, List.length_append]
    omega
  | some x =>
    have e : allKids T = allKids (T.take i) ++ (x.kids ++ allKids (T.drop (i + 1))) := by
      have hi : i < T.length := (List.getElem?_eq_some_iff.1 hx).1
      have h2 : T.drop i = x :: T.drop (i + 1) := by
        rw [List.drop_eq_getElem_cons hi]
        congr 1
        exact (List.getElem?_eq_some_iff.1 hx).2
      have h3 : allKids (T.drop i) = x.kids ++ allKids (T.drop (i + 1)) := by rw [h2]; rfl
      rw [← h3]
      unfold allKids
      rw [← List.flatMap_append, List.take_append_drop]
    rw [e, List.length_append, List.length_append, List.length_append, List.length_take]
    omega
theorem made_at {m k : Nat} (h : k < m) : (madeCells (Value.int .i64 0).cells m).toList[k]? = some (Value.int .i64 0) := by
  unfold madeCells
  rw [Array.getElem?_toList, Array.getElem?_map, Array.getElem?_range, if_pos h]
  show some ((Value.int .i64 0).cells[k % (Value.int .i64 0).cells.size]!) = _
  have : (Value.int .i64 0).cells.size = 1 := rfl
  rw [this, Nat.mod_one]
  rfl
theorem right_no {T : List Nd} (h : ¬ RightT T) : rightB T = false := by
  cases e : rightB T with
  | false => rfl
  | true => exact absurd ((right_iff T).1 e) h

set_option maxHeartbeats 16000000 in
set_option maxRecDepth 100000 in
/-- Right(t), of no list that is too long. -/
theorem right_ok (v : Value) (T : List Nd) (w : World) (hT : NL w v T) (hp : 1 ≤ T.length) (hm : T.length ≤ 400) (hk : (allKids T).length ≤ 1000000) :
    Calls Tryd.prog 12 #[v] w fun e W' => e = .returned (.bool (rightB T)) ∧ Below w.heap.size w W' := by
  obtain ⟨a0, c0, rfl, hc1, hc2⟩ := hT.form
  unfold maxLen at hc2
  obtain ⟨i0, hi, hz0, hz1, hz2⟩ := infoI
  obtain ⟨g, o, c1, hv, hg, hcs⟩ := hT.cells (by omega)
  obtain rfl : a0 = some ⟨g, o, none⟩ := by injection hv
  obtain ⟨n, hn⟩ : ∃ n, n = T.length := ⟨_, rfl⟩
  rw [← hn] at hc1 hp hm ⊢
  have HN := Lib.hid hn
  obtain ⟨W0, hW0⟩ : ∃ W0, W0 = w.alloc (.cells (madeCells (Value.int .i64 0).cells (n * 1)) 3) := ⟨_, rfl⟩
  have hmk : (Instr.makeSlice 40 (.int .i64 (n : Int)) (.int .i64 (n : Int))).run Tryd.prog w = .ok (.slice (some ⟨w.heap.size, 0, none⟩) n n) W0 := by
    have h := run_make (P := Tryd.prog) w 40 3 i0 _ Tryd.underlying40 hi hz0 .i64 .i64 (n : Int) (n : Int) (by omega) (by omega) (by rw [hz2]; omega) (by omega)
    rw [hz1] at h
    rw [hW0]
    exact h
  have hown : IOwn W0 w.heap.size (.slice (some ⟨w.heap.size, 0, none⟩) n n) (cntP n []) := by
    have hl := cntP_len n []
    show World.ownsRow _ _ _ _ _ _ _
    rw [hl]
    refine ⟨by rw [nums_len, hl]; omega, .inr ⟨_, n, _, rfl, Nat.le_refl _, by rw [hW0]; exact World.alloc_heap_new w _, Nat.le_refl _, by unfold maxLen; omega, by rw [size_madeCells], ?_⟩⟩
    apply List.ext_getElem?
    intro k
    rw [List.getElem?_take]
    by_cases hk : k < n * 1
    · rw [if_pos hk]
      have h2 : (nums (cntP n []))[k]? = some (.int .i64 0) := nums_at (by rw [cntP_at _ (by omega)]; rfl)
      rw [h2]
      exact made_at (by omega)
    · rw [if_neg hk, List.getElem?_eq_none (by rw [nums_len, cntP_len]; omega)]
  have hb0 : Below w.heap.size w W0 := by rw [hW0]; exact (Below.refl _ w).alloc (Nat.le_refl _) _
  have HT := Lib.hid hT
  have HCS := Lib.hid hcs
  have HOWN := Lib.hid hown
  have HB0 := Lib.hid hb0
  have HKL := Lib.hid hk
  obtain ⟨R, hR⟩ : ∃ R, R = rightB T := ⟨_, rfl⟩
  have HR := Lib.hid hR
  rw [← hR]
  have t1 : ¬ (n : Int) < 1 := by omega
  have t2 : ¬ (400 : Int) < (n : Int) := by omega
  clear hT hcs hown hb0 hn hv hW0 hk hR
  go_enter Tryd.func12, Tryd.ntmps12
  go_wp2
  go_loopw [4] (fun i wr => ∃ k : Nat, k ≤ n ∧ i = .int .i64 k ∧ Below w.heap.size w wr ∧ IOwn wr w.heap.size (.slice (some ⟨w.heap.size, 0, none⟩) n n) (cntP n (allKids (T.take k))) ∧ nodesB T k = true) (fun i _ => n - (intOf i).toNat)
  case atStart => exact ⟨0, Nat.zero_le _, rfl, HB0.out, HOWN.out, rfl⟩
  case round =>
    obtain ⟨i, hi2, rfl, hB, hO, hnd⟩ := hrel
    have HB := Lib.hid hB
    have HO := Lib.hid hO
    have HND := Lib.hid hnd
    clear hO hnd
    by_cases hlt : i < n
    · obtain ⟨x, hx⟩ : ∃ x, T[i]? = some x := ⟨_, List.getElem?_eq_getElem (by rw [← HN.out]; exact hlt)⟩
      have HX := Lib.hid hx
      obtain ⟨y0, y1, kx, y2, xk0⟩ := HCS.out i x hx
      have xk := xk0.below hB
      have HF := Lib.hid (form_c x kx wr xk)
      obtain ⟨ka, kc, rfl, hl1, hl2⟩ := xk.form
      have HKX := Lib.hid xk0
      have hK : x.kids.length ≤ (allKids T).length := by
        have := seenP_len (T := T) i x.kids.length
        unfold seenP at this
        rw [hx] at this
        simp only [List.length_append, List.take_length] at this
        omega
      have hK2 : x.kids.length ≤ 1000000 := by have := HKL.out; omega
      obtain ⟨K, hKK⟩ : ∃ K, K = x.kids.length := ⟨_, rfl⟩
      have HKK := Lib.hid hKK
      have HCX : Hid (∀ W, Below w.heap.size w W → W.cell? ⟨g, o + i * 3, none⟩ = some (.int .i64 x.kind) ∧ W.cell? ⟨g, o + i * 3 + 1, none⟩ = some (.string (bs x.text)) ∧ W.cell? ⟨g, o + i * 3 + 2, none⟩ = some (.slice ka K kc)) := Lib.hid (fun W hW => by
        rw [hKK]
        exact ⟨(hW.cell (p := ⟨g, o + i * 3, none⟩) hg).trans y0, (hW.cell (p := ⟨g, o + i * 3 + 1, none⟩) hg).trans y1, (hW.cell (p := ⟨g, o + i * 3 + 2, none⟩) hg).trans y2⟩)
      rw [← hKK] at hK2 hl1 HF HKX
      unfold maxLen at hl2
      obtain ⟨bf, hbf⟩ : ∃ b, b = formB x := ⟨_, rfl⟩
      rw [← hbf] at HF
      have HBF := Lib.hid hbf
      obtain ⟨p1, hp1⟩ : ∃ p, p = x.kind := ⟨_, rfl⟩
      obtain ⟨p2, hp2⟩ : ∃ p, p = bs x.text := ⟨_, rfl⟩
      rw [← hp1, ← hp2] at HF HCX
      obtain ⟨x0, x1, x2⟩ := HCX.out wr hB
      clear hB hx xk xk0 hK hKK hbf hp1 hp2 y0 y1 y2
      go_wp2_with fail
      refine HF.out.mono ?_
      rintro e w2 ⟨rfl, hb2⟩
      have HB2 := Lib.hid (HB.out.trans (hb2.mono HB.out.size))
      have HO2 := Lib.hid (own_kept HO.out hb2)
      have HS2 := Lib.hid hb2
      clear hb2
      cases bf with
      | false =>
        have HRF : Hid (R = false) := Lib.hid (by
          rw [HR.out]
          refine right_no (fun h => ?_)
          have := (h.node i x HX.out).1
          rw [← HBF.out] at this
          cases this)
        go_wp2
        go_ret
        exact ⟨by rw [HRF.out]; rfl, HB2.out⟩
      | true =>
        go_wp2
        go_loopw [5, 6, 7] (fun last k _ w' => ∃ j : Nat, j ≤ K ∧ k = .int .i64 j ∧ last = .int .i64 (lastL (-1) (x.kids.take j)) ∧ riseB (i : Int) (-1) (x.kids.take j) = true ∧ Below w.heap.size w w' ∧ IOwn w' w.heap.size (.slice (some ⟨w.heap.size, 0, none⟩) n n) (cntP n (seenP T i j))) (fun _ k _ _ => K - (intOf k).toNat)
        case atStart => exact ⟨0, Nat.zero_le _, rfl, rfl, rfl, HB2.out, by rw [seenP_zero]; exact HO2.out⟩
        case round =>
          obtain ⟨j, hj, rfl, rfl, hri, hB3, hO3⟩ := hrel
          have HB3 := Lib.hid hB3
          have HO3 := Lib.hid hO3
          have HRI := Lib.hid hri
          obtain ⟨z0, z1, z2⟩ := HCX.out wr hB3
          by_cases hjK : j < K
          · obtain ⟨gk, ok, ck, hv, hgk, hck⟩ := HKX.out.cells (by rw [← HKK.out]; omega)
            rw [← HKK.out] at hv
            obtain rfl : ka = some ⟨gk, ok, none⟩ := by injection hv
            obtain ⟨a, ha⟩ : ∃ a, x.kids[j]? = some a := ⟨_, List.getElem?_eq_getElem (by rw [← HKK.out]; exact hjK)⟩
            have e1 := (hB3.cell (p := ⟨gk, ok + j, none⟩) hgk).trans (hck j a ha)
            have hge := lastL_ge hri
            obtain ⟨L, hL⟩ : ∃ L, L = lastL (-1) (x.kids.take j) := ⟨_, rfl⟩
            rw [← hL] at hge ⊢
            have htk : x.kids.take (j + 1) = x.kids.take j ++ [a] := by rw [List.take_add_one, ha]; rfl
            have hrs := rise_snoc (i : Int) (x.kids.take j) (-1) a
            rw [hri, ← htk, ← hL, Bool.true_and] at hrs
            have HBAD : Hid (¬ (L < a ∧ a < (i : Int)) → R = false) := Lib.hid (fun hbad => by
              rw [HR.out]
              refine right_no (fun h => ?_)
              have h1 := (h.node i x HX.out).2
              have h2 : riseB (i : Int) (-1) (x.kids.take (j + 1)) = true := rise_app _ _ (x.kids.drop (j + 1)) _ (by rw [List.take_append_drop]; exact h1)
              rw [hrs] at h2
              simp only [Bool.and_eq_true, decide_eq_true_eq] at h2
              exact hbad h2)
            have HRS := Lib.hid hrs
            have HTK := Lib.hid htk
            have HAA := Lib.hid ha
            clear hv hgk hck htk hrs ha hri hL hO3
            by_cases h1 : a ≤ L
            · have HRF := Lib.hid (HBAD.out (by omega))
              clear hB3 hge
              go_wp2
              go_ret
              exact ⟨by rw [HRF.out]; rfl, HB3.out⟩
            · by_cases h2 : (i : Int) ≤ a
              · have HRF := Lib.hid (HBAD.out (by omega))
                clear hB3 hge
                go_wp2
                go_ret
                exact ⟨by rw [HRF.out]; rfl, HB3.out⟩
              · obtain ⟨m, rfl⟩ : ∃ m : Nat, a = (m : Int) := ⟨a.toNat, by omega⟩
                have hmn : m < n := by omega
                have hcn : ((seenP T i j).count (m : Int)) ≤ 1000000 := by
                  have q1 := count_le (seenP T i j) (m : Int)
                  have q2 := seenP_len (T := T) i j
                  have q3 := HKL.out
                  omega
                have hO4 := HO3.out
                have hc4 : wr.cell? ⟨w.heap.size, m, none⟩ = some (.int .i64 (((seenP T i j).count (m : Int) : Nat) : Int)) := by
                  have hl := cntP_len n (seenP T i j)
                  change World.ownsRow _ _ _ _ _ _ _ at hO4
                  rw [hl] at hO4
                  rw [World.ownsRow.cellAt hO4 m (by omega)]
                  exact nums_at (cntP_at _ hmn)
                have hf4 : wr.frozen? ⟨w.heap.size, m, none⟩ = false := by
                  have h9 := HO3.out
                  rcases h9.2 with ⟨h', _⟩ | ⟨g', cap', cur, h', _, hh, _⟩
                  · cases h'
                  · injection h' with h' _ _
                    injection h' with h'
                    injection h' with h' _ _
                    subst h'
                    exact (show Row wr w.heap.size 3 cur from hh).frozen m
                obtain ⟨cc, hcc⟩ : ∃ c, c = (seenP T i j).count (m : Int) := ⟨_, rfl⟩
                rw [← hcc] at hc4 hcn
                have HCC := Lib.hid hcc
                have HNEW : Hid (IOwn (wr.setCell ⟨w.heap.size, m, none⟩ (.int .i64 ((cc : Int) + 1))) w.heap.size (.slice (some ⟨w.heap.size, 0, none⟩) n n) (cntP n (seenP T i (j + 1)))) := Lib.hid (by
                  have hl := cntP_len n (seenP T i j)
                  change World.ownsRow _ _ _ _ _ _ _ at hO4
                  rw [hl] at hO4
                  have h9 := (hO4.stored m (.int .i64 ((cc : Int) + 1))).1
                  rw [seenP_succ HX.out HAA.out, cntP_snoc, ← hcc]
                  show World.ownsRow _ _ _ _ _ _ _
                  rw [List.length_set, hl]
                  have h8 : nums ((cntP n (seenP T i j)).set m ((cc : Int) + 1)) = (nums (cntP n (seenP T i j))).set m (.int .i64 ((cc : Int) + 1)) := by simp [nums, List.map_set]
                  rw [h8]
                  exact h9)
                have hla : ¬ (m : Int) ≤ L := h1
                have hlb : ¬ (i : Int) ≤ (m : Int) := h2
                have hlc : (m : Int) < (n : Int) := by omega
                clear hB3 hO4 hcc hge h1 h2
                go_wp2
                go_roundw
                case rel =>
                  refine ⟨j + 1, by omega, by go_num, by rw [HTK.out, lastL_snoc], ?_, HB3.out.setCell (Nat.le_refl _) _, HNEW.out⟩
                  rw [HRS.out]
                  simp only [Bool.and_eq_true, decide_eq_true_eq]
                  omega
                case measure => simp [intOf]; omega
          · obtain rfl : j = K := by omega
            have HNX : Hid (nodesB T (i + 1) = true) := Lib.hid (by
              simp only [nodesB, HND.out, Bool.true_and, HX.out]
              unfold nodeB
              rw [← HBF.out, Bool.true_and]
              have h9 := hri
              rw [HKK.out, List.take_length] at h9
              exact h9)
            have HOX : Hid (IOwn wr w.heap.size (.slice (some ⟨w.heap.size, 0, none⟩) n n) (cntP n (allKids (T.take (i + 1))))) := Lib.hid (by
              have h9 := hO3
              rw [HKK.out, seenP_all HX.out] at h9
              exact h9)
            clear hri hB3 hO3
            go_wp2
            go_roundw
            case rel => exact ⟨i + 1, by omega, by go_num, HB3.out, HOX.out, HNX.out⟩
            case measure => simp [intOf]; omega
    · obtain rfl : i = n := by omega
      have hall : IOwn wr w.heap.size (.slice (some ⟨w.heap.size, 0, none⟩) i i) (cntP i (allKids T)) := by
        have h9 := HO.out
        rw [HN.out, List.take_length] at h9
        rw [HN.out]
        exact h9
      have HALL := Lib.hid hall
      clear hall hB
      go_wp2
      go_loopw [8] (fun k w' => ∃ j : Nat, j + 1 ≤ i ∧ k = .int .i64 j ∧ w' = wr ∧ onceB T j = true) (fun k _ => i - (intOf k).toNat)
      case atStart => exact ⟨0, by omega, rfl, rfl, rfl⟩
      case round =>
        obtain ⟨j, hj, rfl, hw, hon⟩ := hrel
        subst hw
        by_cases hlt2 : j + 1 < i
        · have hc4 : wr.cell? ⟨w.heap.size, j, none⟩ = some (.int .i64 (((allKids T).count (j : Int) : Nat) : Int)) := by
            have h9 := HALL.out
            have hl := cntP_len i (allKids T)
            change World.ownsRow _ _ _ _ _ _ _ at h9
            rw [hl] at h9
            rw [World.ownsRow.cellAt h9 j (by omega)]
            exact nums_at (cntP_at _ (by omega))
          obtain ⟨cc, hcc⟩ : ∃ c, c = (allKids T).count (j : Int) := ⟨_, rfl⟩
          rw [← hcc] at hc4
          have HON := Lib.hid hon
          have hl1 : (j : Int) + 1 < (i : Int) := by omega
          by_cases h1 : cc = 1
          · have HOX : Hid (onceB T (j + 1) = true) := Lib.hid (by
              simp only [onceB, HON.out, Bool.true_and]
              rw [← hcc, h1]
              rfl)
            subst h1
            clear hon hcc
            go_wp2
            go_roundw
            case rel => exact ⟨j + 1, by omega, by go_num, trivial, HOX.out⟩
            case measure => simp [intOf]; omega
          · have HRF : Hid (R = false) := Lib.hid (by
              rw [HR.out]
              refine right_no (fun h => ?_)
              have := h.once j (by rw [← HN.out]; exact hlt2)
              rw [← hcc] at this
              exact h1 this)
            have t3 : ((cc : Int) != 1) = true := by simp; omega
            clear hon hcc h1
            go_wp2
            go_ret
            exact ⟨by rw [HRF.out]; rfl, HB.out⟩
        · have HRT : Hid (R = true) := Lib.hid (by
            rw [HR.out]
            simp only [rightB, Bool.and_eq_true, decide_eq_true_eq]
            refine ⟨⟨⟨by rw [← HN.out]; omega, by rw [← HN.out]; omega⟩, by rw [← HN.out]; exact HND.out⟩, ?_⟩
            rw [← HN.out, show i - 1 = j by omega]
            exact hon)
          have hl1 : ¬ (j : Int) + 1 < (i : Int) := by omega
          clear hon
          go_wp2
          go_ret
          exact ⟨by rw [HRT.out]; rfl, HB.out⟩
end Go.Proofs.YtbegplfijjbpcaaDoor.No
/- The plain Right of any length; how deep a tree is, and the first place that it reaches. -/
namespace Go.Proofs.YtbegplfijjbpcaaDoor.No
open Go Go.RowKit Go.Shelf
attribute [local go_sem] Oper.semAt_some

set_option maxHeartbeats 4000000 in
set_option maxRecDepth 100000 in
/-- Right(t), of no node or too many. -/
theorem right_out (v : Value) (T : List Nd) (w : World) (hT : NL w v T) (hp : T.length < 1 ∨ 400 < T.length) :
    Calls Tryd.prog 12 #[v] w fun e W' => e = .returned (.bool (rightB T)) ∧ Below w.heap.size w W' := by
  obtain ⟨a0, c0, rfl, hc1, hc2⟩ := hT.form
  unfold maxLen at hc2
  have hr : rightB T = false := right_no (fun h => by have := h.pos; have := h.max; omega)
  rw [hr]
  obtain ⟨n, hn⟩ : ∃ n, n = T.length := ⟨_, rfl⟩
  rw [← hn] at hc1 hp ⊢
  have HD := Lib.hid (Below.refl w.heap.size w)
  clear hT hn hr
  rcases Nat.lt_or_ge n 1 with h1 | h1
  · have t1 : (n : Int) < 1 := by omega
    go_enter Tryd.func12, Tryd.ntmps12
    go_wp2
    go_ret
    exact ⟨rfl, HD.out⟩
  · have t1 : ¬ (n : Int) < 1 := by omega
    have t2 : (400 : Int) < (n : Int) := by omega
    go_enter Tryd.func12, Tryd.ntmps12
    go_wp2
    go_ret
    exact ⟨rfl, HD.out⟩
/-- Right(t). -/
theorem right_c (v : Value) (T : List Nd) (w : World) (hT : NL w v T) (hk : (allKids T).length ≤ 1000000) :
    Calls Tryd.prog 12 #[v] w fun e W' => e = .returned (.bool (rightB T)) ∧ Below w.heap.size w W' := by
  by_cases h : T.length < 1 ∨ 400 < T.length
  · exact right_out v T w hT h
  · exact right_ok v T w hT (by omega) (by omega) hk

/-! ### How deep -/
def KidsOk (T : List Nd) : Prop := ∀ (i : Nat) (x : Nd), T[i]? = some x → ∀ a ∈ x.kids, 0 ≤ a ∧ a < (i : Int)
theorem RightT.kidsOk {T : List Nd} (h : RightT T) : KidsOk T := fun _ _ hx => h.kid hx
theorem foldl_max_le : ∀ (l : List Nat) (a b : Nat), (∀ x ∈ l, x ≤ b) → a ≤ b → l.foldl max a ≤ b
  | [], _, _, _, h => h
  | c :: l, a, b, h, ha => foldl_max_le l (max a c) b (fun x hx => h x (List.mem_cons_of_mem _ hx)) (Nat.max_le.2 ⟨ha, h c (List.mem_cons_self ..)⟩)
theorem foldl_min_le : ∀ (l : List Nat) (a b : Nat), a ≤ b → l.foldl min a ≤ b
  | [], _, _, h => h
  | c :: l, a, b, ha => foldl_min_le l (min a c) b (Nat.le_trans (Nat.min_le_left _ _) ha)
def accD (T : List Nd) (l : List Int) : Nat := (l.map fun k => val deepC 0 T k.toNat).foldl max 0
theorem accD_snoc (T : List Nd) (l : List Int) (a : Int) : accD T (l ++ [a]) = max (accD T l) (val deepC 0 T a.toNat) := by simp [accD]
def accF (T : List Nd) (i : Nat) (l : List Int) : Nat := (l.map fun k => val firstC 0 T k.toNat).foldl min i
theorem accF_snoc (T : List Nd) (i : Nat) (l : List Int) (a : Int) : accF T i (l ++ [a]) = min (accF T i l) (val firstC 0 T a.toNat) := by simp [accF]
theorem deep_eq {T : List Nd} (h : KidsOk T) {i : Nat} {x : Nd} (hx : T[i]? = some x) : val deepC 0 T i = accD T x.kids + 1 := val_eq deepC 0 hx (h i x hx)
theorem first_eq {T : List Nd} (h : KidsOk T) {i : Nat} {x : Nd} (hx : T[i]? = some x) : val firstC 0 T i = accF T i x.kids := val_eq firstC 0 hx (h i x hx)
theorem deep_le {T : List Nd} (h : KidsOk T) : ∀ i, i < T.length → val deepC 0 T i ≤ i + 1 := by
  intro i
  induction i using Nat.strongRecOn with
  | _ i ih =>
    intro hi
    obtain ⟨x, hx⟩ : ∃ x, T[i]? = some x := ⟨_, List.getElem?_eq_getElem hi⟩
    rw [deep_eq h hx]
    have : accD T x.kids ≤ i := by
      refine foldl_max_le _ _ _ (fun y hy => ?_) (Nat.zero_le _)
      obtain ⟨k, hk, rfl⟩ := List.mem_map.1 hy
      have h1 := h i x hx k hk
      have := ih k.toNat (by omega) (by omega)
      omega
    omega
theorem accD_le {T : List Nd} (h : KidsOk T) {i : Nat} {x : Nd} (hx : T[i]? = some x) (j : Nat) : accD T (x.kids.take j) ≤ i := by
  refine foldl_max_le _ _ _ (fun y hy => ?_) (Nat.zero_le _)
  obtain ⟨k, hk, rfl⟩ := List.mem_map.1 hy
  have h1 := h i x hx k (List.mem_of_mem_take hk)
  have hi := (List.getElem?_eq_some_iff.1 hx).1
  have := deep_le h k.toNat (by omega)
  omega
theorem first_le {T : List Nd} (h : KidsOk T) {i : Nat} (hi : i < T.length) : val firstC 0 T i ≤ i := by
  obtain ⟨x, hx⟩ : ∃ x, T[i]? = some x := ⟨_, List.getElem?_eq_getElem hi⟩
  rw [first_eq h hx]
  exact foldl_min_le _ _ _ (Nat.le_refl _)
theorem accF_le (T : List Nd) (i : Nat) (l : List Int) : accF T i l ≤ i := foldl_min_le _ _ _ (Nat.le_refl _)

set_option maxHeartbeats 4000000 in
set_option maxRecDepth 100000 in
/-- deep(t, at). -/
theorem deep_c (v : Value) (T : List Nd) (hN : KidsOk T) : ∀ (i : Nat), i < T.length → ∀ w, NL w v T →
    Calls Tryd.prog 34 #[v, .int .i64 (i : Int)] w fun e W' => e = .returned (.int .i64 ((val deepC 0 T i : Nat) : Int)) ∧ Below w.heap.size w W' := by
  intro i
  induction i using Nat.strongRecOn with
  | _ i ih =>
  intro hi w hT
  have HIH : Hid (∀ j, j < i → ∀ w, NL w v T → Calls Tryd.prog 34 #[v, .int .i64 (j : Int)] w fun e W' => e = .returned (.int .i64 ((val deepC 0 T j : Nat) : Int)) ∧ Below w.heap.size w W') := Lib.hid (fun j hj w h => ih j hj (by omega) w h)
  clear ih
  obtain ⟨x, hx⟩ : ∃ x, T[i]? = some x := ⟨_, List.getElem?_eq_getElem hi⟩
  have hD := deep_eq hN hx
  have HACC : Hid (∀ j, accD T (x.kids.take j) ≤ i) := Lib.hid (accD_le hN hx)
  have HKI : Hid (∀ a ∈ x.kids, 0 ≤ a ∧ a < (i : Int)) := Lib.hid (hN i x hx)
  have HTB : Hid (∀ W, Below w.heap.size w W → NL W v T) := Lib.hid (fun W hW => hT.below hW)
  obtain ⟨a0, c0, rfl, hc1, hc2⟩ := hT.form
  unfold maxLen at hc2
  obtain ⟨g, o, c1, hv, hg, hcs⟩ := hT.cells (by omega)
  obtain rfl : a0 = some ⟨g, o, none⟩ := by injection hv
  obtain ⟨x0, x1, kx, x2, xk⟩ := hcs i x hx
  obtain ⟨ka, kc, rfl, hl1, hl2⟩ := xk.form
  unfold maxLen at hl2
  obtain ⟨n, hn⟩ : ∃ n, n = T.length := ⟨_, rfl⟩
  obtain ⟨K, hK⟩ : ∃ n, n = x.kids.length := ⟨_, rfl⟩
  obtain ⟨R, hR⟩ : ∃ n, n = val deepC 0 T i := ⟨_, rfl⟩
  rw [← hR] at hD ⊢
  rw [← hn] at hc1 hi HIH HTB ⊢
  have HN := Lib.hid hn
  have HK := Lib.hid hK
  have HD := Lib.hid hD
  have HXK := Lib.hid xk
  have HCX : Hid (∀ W, Below w.heap.size w W → W.cell? ⟨g, o + i * 3 + 2, none⟩ = some (.slice ka K kc)) := Lib.hid (fun W hW => by
    rw [hK]
    exact (hW.cell (p := ⟨g, o + i * 3 + 2, none⟩) hg).trans x2)
  rw [← hK] at hl1
  have HB0 := Lib.hid (Below.refl w.heap.size w)
  clear hT hv hcs x0 x1 x2 xk hx hn hK hD hR hN
  go_enter Tryd.func34, Tryd.ntmps34
  go_wp2
  go_loopw [5, 6] (fun m k w' => ∃ j q : Nat, j ≤ K ∧ k = .int .i64 j ∧ m = .int .i64 q ∧ q = accD T (x.kids.take j) ∧ Below w.heap.size w w') (fun _ k _ => K - (intOf k).toNat)
  case atStart => exact ⟨0, 0, Nat.zero_le _, rfl, rfl, rfl, HB0.out⟩
  case round =>
    obtain ⟨j, q, hj, rfl, rfl, hq, hB⟩ := hrel
    have HB := Lib.hid hB
    have HQ := Lib.hid hq
    have hqi : q ≤ i := by rw [hq]; exact HACC.out j
    have e0 := HCX.out wr hB
    by_cases hjK : j < K
    · obtain ⟨gk, ok, ck, hv, hgk, hck⟩ := HXK.out.cells (by rw [← HK.out]; omega)
      rw [← HK.out] at hv
      obtain rfl : ka = some ⟨gk, ok, none⟩ := by injection hv
      obtain ⟨a, ha⟩ : ∃ a, x.kids[j]? = some a := ⟨_, List.getElem?_eq_getElem (by rw [← HK.out]; exact hjK)⟩
      have hai := HKI.out a (List.mem_of_getElem? ha)
      obtain ⟨m, rfl⟩ : ∃ m : Nat, a = (m : Int) := ⟨a.toNat, by omega⟩
      have e1 := (hB.cell (p := ⟨gk, ok + j, none⟩) hgk).trans (hck j _ ha)
      have HC := Lib.hid (HIH.out m (by omega) wr (HTB.out wr hB))
      have hmx : max q (val deepC 0 T m) = accD T (x.kids.take (j + 1)) := by
        rw [List.take_add_one, ha]
        show _ = accD T (_ ++ [(m : Int)])
        rw [accD_snoc, hq]
        rfl
      have HMX := Lib.hid hmx
      have hmi := HACC.out (j + 1)
      rw [← hmx] at hmi
      obtain ⟨z, hz⟩ : ∃ z, z = val deepC 0 T m := ⟨_, rfl⟩
      rw [← hz] at HC HMX hmi
      clear hB hv hgk hck ha hmx hz hq
      go_wp2_with fail
      refine HC.out.mono ?_
      rintro e w2 ⟨rfl, hb2⟩
      have HB2 := Lib.hid (HB.out.trans (hb2.mono HB.out.size))
      clear hb2
      go_wp2
      go_roundw
      case rel => exact ⟨j + 1, max q z, by omega, by go_num, by go_num, HMX.out, HB2.out⟩
      case measure => simp [intOf]; omega
    · obtain rfl : j = K := by omega
      have hRq : R = q + 1 := by rw [HD.out, HQ.out, HK.out, List.take_length]
      subst hRq
      clear hB hq
      go_wp2
      go_ret
      exact ⟨by go_num, HB.out⟩
set_option maxHeartbeats 4000000 in
set_option maxRecDepth 100000 in
/-- first(t, at). -/
theorem first_c (v : Value) (T : List Nd) (hN : KidsOk T) : ∀ (i : Nat), i < T.length → ∀ w, NL w v T →
    Calls Tryd.prog 43 #[v, .int .i64 (i : Int)] w fun e W' => e = .returned (.int .i64 ((val firstC 0 T i : Nat) : Int)) ∧ Below w.heap.size w W' := by
  intro i
  induction i using Nat.strongRecOn with
  | _ i ih =>
  intro hi w hT
  have HIH : Hid (∀ j, j < i → ∀ w, NL w v T → Calls Tryd.prog 43 #[v, .int .i64 (j : Int)] w fun e W' => e = .returned (.int .i64 ((val firstC 0 T j : Nat) : Int)) ∧ Below w.heap.size w W') := Lib.hid (fun j hj w h => ih j hj (by omega) w h)
  clear ih
  obtain ⟨x, hx⟩ : ∃ x, T[i]? = some x := ⟨_, List.getElem?_eq_getElem hi⟩
  have hD := first_eq hN hx
  have HACC : Hid (∀ j, accF T i (x.kids.take j) ≤ i) := Lib.hid (fun j => accF_le T i _)
  have HKI : Hid (∀ a ∈ x.kids, 0 ≤ a ∧ a < (i : Int)) := Lib.hid (hN i x hx)
  have HTB : Hid (∀ W, Below w.heap.size w W → NL W v T) := Lib.hid (fun W hW => hT.below hW)
  obtain ⟨a0, c0, rfl, hc1, hc2⟩ := hT.form
  unfold maxLen at hc2
  obtain ⟨g, o, c1, hv, hg, hcs⟩ := hT.cells (by omega)
  obtain rfl : a0 = some ⟨g, o, none⟩ := by injection hv
  obtain ⟨x0, x1, kx, x2, xk⟩ := hcs i x hx
  obtain ⟨ka, kc, rfl, hl1, hl2⟩ := xk.form
  unfold maxLen at hl2
  obtain ⟨n, hn⟩ : ∃ n, n = T.length := ⟨_, rfl⟩
  obtain ⟨K, hK⟩ : ∃ n, n = x.kids.length := ⟨_, rfl⟩
  obtain ⟨R, hR⟩ : ∃ n, n = val firstC 0 T i := ⟨_, rfl⟩
  rw [← hR] at hD ⊢
  rw [← hn] at hc1 hi HIH HTB ⊢
  have HN := Lib.hid hn
  have HK := Lib.hid hK
  have HD := Lib.hid hD
  have HXK := Lib.hid xk
  have HCX : Hid (∀ W, Below w.heap.size w W → W.cell? ⟨g, o + i * 3 + 2, none⟩ = some (.slice ka K kc)) := Lib.hid (fun W hW => by
    rw [hK]
    exact (hW.cell (p := ⟨g, o + i * 3 + 2, none⟩) hg).trans x2)
  rw [← hK] at hl1
  have HB0 := Lib.hid (Below.refl w.heap.size w)
  clear hT hv hcs x0 x1 x2 xk hx hn hK hD hR hN
  go_enter Tryd.func43, Tryd.ntmps43
  go_wp2
  go_loopw [5, 6] (fun m k w' => ∃ j q : Nat, j ≤ K ∧ k = .int .i64 j ∧ m = .int .i64 q ∧ q = accF T i (x.kids.take j) ∧ Below w.heap.size w w') (fun _ k _ => K - (intOf k).toNat)
  case atStart => exact ⟨0, i, Nat.zero_le _, rfl, rfl, rfl, HB0.out⟩
  case round =>
    obtain ⟨j, q, hj, rfl, rfl, hq, hB⟩ := hrel
    have HB := Lib.hid hB
    have HQ := Lib.hid hq
    have hqi : q ≤ i := by rw [hq]; exact HACC.out j
    have e0 := HCX.out wr hB
    by_cases hjK : j < K
    · obtain ⟨gk, ok, ck, hv, hgk, hck⟩ := HXK.out.cells (by rw [← HK.out]; omega)
      rw [← HK.out] at hv
      obtain rfl : ka = some ⟨gk, ok, none⟩ := by injection hv
      obtain ⟨a, ha⟩ : ∃ a, x.kids[j]? = some a := ⟨_, List.getElem?_eq_getElem (by rw [← HK.out]; exact hjK)⟩
      have hai := HKI.out a (List.mem_of_getElem? ha)
      obtain ⟨m, rfl⟩ : ∃ m : Nat, a = (m : Int) := ⟨a.toNat, by omega⟩
      have e1 := (hB.cell (p := ⟨gk, ok + j, none⟩) hgk).trans (hck j _ ha)
      have HC := Lib.hid (HIH.out m (by omega) wr (HTB.out wr hB))
      have hmx : min q (val firstC 0 T m) = accF T i (x.kids.take (j + 1)) := by
        rw [List.take_add_one, ha]
        show _ = accF T i (_ ++ [(m : Int)])
        rw [accF_snoc, hq]
        rfl
      have HMX := Lib.hid hmx
      have hmi := HACC.out (j + 1)
      rw [← hmx] at hmi
      obtain ⟨z, hz⟩ : ∃ z, z = val firstC 0 T m := ⟨_, rfl⟩
      rw [← hz] at HC HMX hmi
      clear hB hv hgk hck ha hmx hz hq
      go_wp2_with fail
      refine HC.out.mono ?_
      rintro e w2 ⟨rfl, hb2⟩
      have HB2 := Lib.hid (HB.out.trans (hb2.mono HB.out.size))
      clear hb2
      go_wp2
      go_roundw
      case rel => exact ⟨j + 1, min q z, by omega, by go_num, by go_num, HMX.out, HB2.out⟩
      case measure => simp [intOf]; omega
    · obtain rfl : j = K := by omega
      have hRq : R = q := by rw [HD.out, HQ.out, HK.out, List.take_length]
      subst hRq
      clear hB hq
      go_wp2
      go_ret
      exact ⟨by go_num, HB.out⟩
set_option maxHeartbeats 4000000 in
set_option maxRecDepth 100000 in
/-- Deep(t). -/
theorem rdeep_c (v : Value) (T : List Nd) (w : World) (hT : NL w v T) (hk : (allKids T).length ≤ 1000000) :
    Calls Tryd.prog 16 #[v] w fun e W' => e = .returned (.int .i64 ((deepA T : Nat) : Int)) ∧ Below w.heap.size w W' := by
  have HR := Lib.hid (right_c v T w hT hk)
  have HTB : Hid (∀ W, Below w.heap.size w W → NL W v T) := Lib.hid (fun W hW => hT.below hW)
  have HTR : Hid (rightB T = true → RightT T) := Lib.hid (right_iff T).1
  obtain ⟨a0, c0, rfl, hc1, hc2⟩ := hT.form
  unfold maxLen at hc2
  obtain ⟨n, hn⟩ : ∃ n, n = T.length := ⟨_, rfl⟩
  unfold deepA
  obtain ⟨r, hr⟩ : ∃ n, n = rightB T := ⟨_, rfl⟩
  have HDC : Hid (∀ W, Below w.heap.size w W → r = true → Calls Tryd.prog 34 #[.slice a0 n c0, .int .i64 ((n : Int) - 1)] W fun e W' => e = .returned (.int .i64 ((val deepC 0 T (n - 1) : Nat) : Int)) ∧ Below W.heap.size W W') := Lib.hid (fun W hW h => by
    rw [hr] at h
    have h1 := HTR.out h
    have h2 := h1.pos
    have h3 := deep_c _ T h1.kidsOk (T.length - 1) (by omega) W (HTB.out W hW)
    rw [← hn] at h3 h2
    rw [show ((n - 1 : Nat) : Int) = (n : Int) - 1 by omega] at h3
    exact h3)
  have hpn : r = true → 1 ≤ n := fun h => by rw [hn]; rw [hr] at h; exact (HTR.out h).pos
  rw [← hn] at hc1 HR ⊢
  rw [← hr] at HR ⊢
  obtain ⟨z, hz⟩ : ∃ z, z = val deepC 0 T (n - 1) := ⟨_, rfl⟩
  rw [← hz] at HDC ⊢
  clear hT hn hr hz HTB HTR
  cases r with
  | false =>
    go_enter Tryd.func16, Tryd.ntmps16
    go_wp2_with fail
    refine HR.out.mono ?_
    rintro e w2 ⟨rfl, hb2⟩
    have HB2 := Lib.hid hb2
    clear hb2
    go_wp2
    go_ret
    exact ⟨rfl, HB2.out⟩
  | true =>
    have hp := hpn rfl
    clear hpn
    go_enter Tryd.func16, Tryd.ntmps16
    go_wp2_with fail
    refine HR.out.mono ?_
    rintro e w2 ⟨rfl, hb2⟩
    have HB2 := Lib.hid hb2
    have HD2 := Lib.hid (HDC.out w2 hb2 (by trivial))
    clear hb2
    go_wp2_with fail
    refine HD2.out.mono ?_
    rintro e w3 ⟨rfl, hb3⟩
    have HB3 := Lib.hid (HB2.out.trans (hb3.mono HB2.out.size))
    clear hb3
    go_wp2
    go_ret
    exact ⟨rfl, HB3.out⟩
end Go.Proofs.YtbegplfijjbpcaaDoor.No
/- A kind's digits. -/
namespace Go.Proofs.YtbegplfijjbpcaaDoor.No
open Go Go.RowKit Go.Shelf
attribute [local go_sem] Oper.semAt_some

/-- A text of one byte that lies new. -/
theorem one_conv (w : World) (m : Int) (c : UInt8) (h : (c.toNat : Int) = m) :
    (convert 50 9 (.slice (some ⟨w.heap.size, 0, none⟩) 1 1)).run Tryd.prog (w.alloc (.cells #[.int .u8 m] 5)) = .ok (.string (bs [c])) (w.alloc (.cells #[.int .u8 m] 5)) :=
  run_convert_bytes_back (P := Tryd.prog) _ 50 9 5 ⟨w.heap.size, 0, none⟩ 1 [c] Tryd.underlying50 Tryd.underlying5 Tryd.underlying9 (fun j hj => by
    have hj0 : j = 0 := by simp at hj; exact hj
    subst hj0
    have hr := (Row.new w 5 #[.int .u8 m]).cell 0
    show World.cell? _ ⟨w.heap.size, 0 + 0, none⟩ = some (.int .u8 (c.toNat : Int))
    rw [h]
    exact hr)
theorem byte_of {n : Int} (h1 : 0 ≤ n) (h2 : n < 256) : ((n.toNat.toUInt8).toNat : Int) = n := by
  have : (n.toNat.toUInt8).toNat = n.toNat := by
    rw [UInt8.toNat_ofNat']
    omega
  omega

set_option maxHeartbeats 8000000 in
set_option maxRecDepth 100000 in
/-- digits(k). -/
theorem digits_c (k : Int) (w : World) (h1 : 0 ≤ k) (h2 : k ≤ 14) :
    Calls Tryd.prog 51 #[.int .i64 k] w fun e W' => e = .returned (.string (bs (digB k))) ∧ Below w.heap.size w W' := by
  have HD : Hid (∀ m, Below w.heap.size w (w.alloc (.cells #[.int .u8 m] 5))) := Lib.hid (fun m => (Below.refl w.heap.size w).alloc (Nat.le_refl _) _)
  by_cases h : 9 < k
  · have hcv := one_conv w (48 + k % 10) ((48 + k % 10).toNat.toUInt8) (byte_of (by omega) (by omega))
    have HDB : Hid (bs [49] ++ bs [(48 + k % 10).toNat.toUInt8] = bs (digB k)) := Lib.hid (by rw [bs_app]; unfold digB; rw [if_pos h]; rfl)
    obtain ⟨s, hs⟩ : ∃ s, s = bs [(48 + k % 10).toNat.toUInt8] := ⟨_, rfl⟩
    have hss : s.size = 1 := by rw [hs]; rfl
    have hst : ¬ 9223372036854775807 < (⟨#[49]⟩ : ByteArray).size + s.size := by rw [hss]; decide
    rw [← hs] at hcv HDB
    clear hs
    go_enter Tryd.func51, Tryd.ntmps51
    go_wp2
    go_ret
    exact ⟨by rw [← HDB.out]; rfl, HD.out _⟩
  · have hcv := one_conv w (48 + k) ((48 + k).toNat.toUInt8) (byte_of (by omega) (by omega))
    have HDB : Hid (bs [(48 + k).toNat.toUInt8] = bs (digB k)) := Lib.hid (by unfold digB; rw [if_neg h])
    obtain ⟨s, hs⟩ : ∃ s, s = bs [(48 + k).toNat.toUInt8] := ⟨_, rfl⟩
    rw [← hs] at hcv HDB
    clear hs
    go_enter Tryd.func51, Tryd.ntmps51
    go_wp2
    go_ret
    exact ⟨by rw [← HDB.out]; rfl, HD.out _⟩
end Go.Proofs.YtbegplfijjbpcaaDoor.No
/- A text, as a show has it. -/
namespace Go.Proofs.YtbegplfijjbpcaaDoor.No
open Go Go.RowKit Go.Shelf
attribute [local go_sem] Oper.semAt_some

theorem infoU8 : ∃ i, Tryd.prog.info? 5 = some i ∧ i.zero = some (.int .u8 0) ∧ i.size = 1 ∧ i.bytes = 1 :=
  info_parts (show (Tryd.prog.info? 5).map (fun i => (i.zero, i.size, i.bytes)) = some (some (.int .u8 0), 1, 1) by kernel_rfl)
theorem byteCells_app (a b : List UInt8) : Lib.byteCells (a ++ b) = Lib.byteCells a ++ Lib.byteCells b := by simp [Lib.byteCells]
theorem own_conv {W : World} {base : Nat} {v : Value} {T : List UInt8} (h : W.ownsRow base 5 1 v T.length (Lib.byteCells T)) : (convert 50 9 v).run Tryd.prog W = .ok (.string (bs T)) W := by
  rcases h.2 with ⟨rfl, h0⟩ | ⟨g, cap, cur, rfl, hbg, hg, hnc, hcm, hcs, htk⟩
  · have hT : T = [] := List.eq_nil_of_length_eq_zero h0
    subst hT
    have := Lib.run_convert_nil_bytes (P := Tryd.prog) W 50 9 5 0 Tryd.underlying50 Tryd.underlying5 Tryd.underlying9
    simpa [bs] using this
  · exact run_convert_bytes_back (P := Tryd.prog) W 50 9 5 ⟨g, 0, none⟩ cap T Tryd.underlying50 Tryd.underlying5 Tryd.underlying9 (fun j hj => h.cells (g := g) rfl j _ (by simp [Lib.byteCells, hj]))
theorem byte_at (x : ByteArray) (k : Nat) (h : k < x.size) : x.data.toList[k]? = some x[k] := by
  have hl : k < x.data.toList.length := by rw [← Lib.size_eq]; exact h
  rw [List.getElem?_eq_getElem hl]
  rfl
theorem word_snoc {X : List UInt8} {k : Nat} {c : UInt8} (h : X[k]? = some c) : wordB (X.take (k + 1)) = wordB (X.take k) ++ escB c := by
  rw [List.take_add_one, h]
  simp [wordB]
theorem esc_len (c : UInt8) : (escB c).length ≤ 3 := by
  unfold escB
  split
  · exact Nat.le_refl _
  · exact Nat.le_succ_of_le (Nat.le_succ _)
theorem word_len : ∀ X : List UInt8, (wordB X).length ≤ 3 * X.length
  | [] => Nat.le_refl _
  | c :: X => by
    have h1 := word_len X
    have h2 := esc_len c
    have : wordB (c :: X) = escB c ++ wordB X := rfl
    rw [this, List.length_append, List.length_cons]
    omega

theorem bad_iff (c : UInt8) : badB c = true ↔ (c.toNat : Int) < 33 ∨ (126 : Int) < (c.toNat : Int) ∨ (c.toNat : Int) = 37 ∨ (c.toNat : Int) = 40 ∨ (c.toNat : Int) = 41 ∨ (c.toNat : Int) = 58 := by
  have e : ∀ d : UInt8, c = d ↔ (c.toNat : Int) = (d.toNat : Int) := fun d => by rw [← UInt8.toNat_inj]; omega
  unfold badB
  simp only [Bool.or_eq_true, decide_eq_true_eq, UInt8.lt_iff_toNat_lt, e]
  have h1 : (33 : UInt8).toNat = 33 := rfl
  have h2 : (126 : UInt8).toNat = 126 := rfl
  have h3 : (37 : UInt8).toNat = 37 := rfl
  have h4 : (40 : UInt8).toNat = 40 := rfl
  have h5 : (41 : UInt8).toNat = 41 := rfl
  have h6 : (58 : UInt8).toNat = 58 := rfl
  show ((((((c.toNat < (33 : UInt8).toNat ∨ (126 : UInt8).toNat < c.toNat) ∨ _) ∨ _) ∨ _) ∨ _)) ↔ _
  rw [h1, h2, h3, h4, h5, h6]
  omega
theorem neq_of {a b : Int} (h : a ≠ b) : (a == b) = false := by simpa using h
theorem eq_of {a b : Int} (h : a = b) : (a == b) = true := by simpa using h
/-- The sixteen digits. -/
def hexT : ByteArray := ⟨#[48, 49, 50, 51, 52, 53, 54, 55, 56, 57, 97, 98, 99, 100, 101, 102]⟩
theorem hexT_size : hexT.size = 16 := rfl
theorem hexT_at : ∀ q, q < 16 → hexT.data[q]? = some (hexB q) := by decide
theorem run_index_hex {P : Program} (w : World) (t : TypeId) (k : IntKind) (q : Nat) (h : P.underlying t = some .string) (hq : q < 16) :
    (Instr.index t (.string hexT) (.int k (q : Int))).run P w = .ok (.int .u8 ((hexB q).toNat : Int)) w := by
  have hi : 0 ≤ (q : Int) ∧ (q : Int) < (hexT.size : Int) := by rw [hexT_size]; omega
  have h2 : q < hexT.size := by rw [hexT_size]; omega
  rw [run_index_string w t hexT k q h, dif_pos hi]
  have h3 := hexT_at q hq
  have h4 : hexT[q] = hexB q := (Array.getElem?_eq_some_iff.1 h3).2
  show Result.ok (Value.int .u8 ((hexT[q] : UInt8).toNat : Int)) w = _
  rw [h4]
theorem run_index_hexq {P : Program} (w : World) (t : TypeId) (k : IntKind) (c : UInt8) (h : P.underlying t = some .string) :
    (Instr.index t (.string ⟨#[48, 49, 50, 51, 52, 53, 54, 55, 56, 57, 97, 98, 99, 100, 101, 102]⟩) (.int k (IntKind.u8.wrap ((c.toNat : Int) / 16)))).run P w = .ok (.int .u8 ((hexB (c.toNat / 16)).toNat : Int)) w := by
  have hc := UInt8.toNat_lt c
  have : IntKind.u8.wrap ((c.toNat : Int) / 16) = ((c.toNat / 16 : Nat) : Int) := by
    show ((c.toNat : Int) / 16) % 256 = _
    omega
  rw [this]
  exact run_index_hex w t k _ h (by omega)
theorem run_index_hexr {P : Program} (w : World) (t : TypeId) (k : IntKind) (c : UInt8) (h : P.underlying t = some .string) :
    (Instr.index t (.string ⟨#[48, 49, 50, 51, 52, 53, 54, 55, 56, 57, 97, 98, 99, 100, 101, 102]⟩) (.int k ((c.toNat : Int).tmod 16))).run P w = .ok (.int .u8 ((hexB (c.toNat % 16)).toNat : Int)) w := by
  have : (c.toNat : Int).tmod 16 = ((c.toNat % 16 : Nat) : Int) := rfl
  rw [this]
  exact run_index_hex w t k _ h (by omega)
attribute [local go_sem high] run_index_hexq run_index_hexr

set_option maxRecDepth 100000 in
set_option maxHeartbeats 8000000 in
/-- word(s). -/
theorem word_c (X : List UInt8) (hX : X.length ≤ 10000000) (w : World) :
    Calls Tryd.prog 52 #[.string (bs X)] w fun e W' => e = .returned (.string (bs (wordB X))) ∧ Below w.heap.size w W' := by
  obtain ⟨i0, hi, hz0, hz1, hz2⟩ := infoU8
  obtain ⟨x, hx⟩ : ∃ x, x = bs X := ⟨_, rfl⟩
  have hxl : x.data.toList = X := by rw [hx, bs_list]
  have hxs : x.size ≤ 10000000 := by rw [hx, bs_size]; exact hX
  have hxz : x.size = X.length := by rw [hx, bs_size]
  have HX := Lib.hid hxl
  have HXZ := Lib.hid hxz
  rw [← hx]
  clear hx hxl hxz
  go_enter Tryd.func52, Tryd.ntmps52
  go_wp2
  go_loopw [4, 5] (fun u i wr => ∃ k : Nat, k ≤ x.size ∧ i = .int .i64 k ∧ wr.ownsRow w.heap.size 5 1 u (wordB (X.take k)).length (Lib.byteCells (wordB (X.take k))) ∧ Below w.heap.size w wr)
    (fun _ i _ => x.size - (intOf i).toNat)
  case atStart => exact ⟨0, Nat.zero_le _, rfl, World.ownsRow_nil _ _ _ _, Below.refl _ _⟩
  case round =>
    obtain ⟨k, hk, rfl, hown, hB⟩ := hrel
    have HO := Lib.hid hown
    have HB := Lib.hid hB
    have hbs := hB.size
    clear hown hB
    by_cases hlt : k < x.size
    · have hat := byte_at x k hlt
      rw [HX.out] at hat
      have HS := Lib.hid (word_snoc hat)
      have H3 : Hid ((wordB (X.take k)).length + 3 ≤ 40000000) := Lib.hid (by have h1 := word_len (X.take k); rw [List.length_take] at h1; omega)
      have HBI := Lib.hid (bad_iff x[k])
      clear hat
      by_cases hbad : badB x[k] = true
      · have HES : Hid (Lib.byteCells (wordB (X.take (k + 1))) = Lib.byteCells (wordB (X.take k)) ++ [.int .u8 37, .int .u8 ((hexB (x[k].toNat / 16)).toNat : Int), .int .u8 ((hexB (x[k].toNat % 16)).toNat : Int)] ∧ (wordB (X.take (k + 1))).length = (wordB (X.take k)).length + 3) := Lib.hid (by
          rw [HS.out, byteCells_app]
          unfold escB
          rw [if_pos hbad]
          exact ⟨rfl, by simp⟩)
        have H1 : Hid (∀ (j : Nat) (u : Value), [Value.int .u8 37, .int .u8 ((hexB (x[k].toNat / 16)).toNat : Int), .int .u8 ((hexB (x[k].toNat % 16)).toNat : Int)][j]? = some u → (wr.drew.alloc (.cells #[.int .u8 37, .int .u8 ((hexB (x[k].toNat / 16)).toNat : Int), .int .u8 ((hexB (x[k].toNat % 16)).toNat : Int)] 5)).cell? ((⟨wr.heap.size, 0, none⟩ : Addr).add j) = some u) :=
          Lib.hid (World.news_of_block (World.alloc_heap_new wr.drew (.cells #[.int .u8 37, .int .u8 ((hexB (x[k].toNat / 16)).toNat : Int), .int .u8 ((hexB (x[k].toNat % 16)).toNat : Int)] 5)))
        have H2 : Hid (∀ u ∈ [Value.int .u8 37, .int .u8 ((hexB (x[k].toNat / 16)).toNat : Int), .int .u8 ((hexB (x[k].toNat % 16)).toNat : Int)], u.oneCell' = true) := Lib.hid (by intro u hu; simp at hu; rcases hu with rfl | rfl | rfl <;> rfl)
        have H4 : Hid ((wordB (X.take k)).length + 3 ≤ maxLen ∧ ((wordB (X.take k)).length + 3) * 1 ≤ 140737488355328) := Lib.hid ⟨by have := H3.out; unfold maxLen; omega, by have := H3.out; omega⟩
        have H5 : Hid (w.heap.size ≤ (wr.drew.alloc (.cells #[.int .u8 37, .int .u8 ((hexB (x[k].toNat / 16)).toNat : Int), .int .u8 ((hexB (x[k].toNat % 16)).toNat : Int)] 5)).heap.size) := Lib.hid (by rw [World.size_alloc]; exact Nat.le_succ_of_le hbs)
        have hcs := (HBI.out).1 hbad
        have hor : (x[k].toNat : Int) < 33 ∨ (¬ (x[k].toNat : Int) < 33 ∧ (126 : Int) < (x[k].toNat : Int)) ∨ (¬ (x[k].toNat : Int) < 33 ∧ ¬ (126 : Int) < (x[k].toNat : Int) ∧ ((x[k].toNat : Int) == 37) = true) ∨ (¬ (x[k].toNat : Int) < 33 ∧ ¬ (126 : Int) < (x[k].toNat : Int) ∧ ((x[k].toNat : Int) == 37) = false ∧ ((x[k].toNat : Int) == 40) = true) ∨ (¬ (x[k].toNat : Int) < 33 ∧ ¬ (126 : Int) < (x[k].toNat : Int) ∧ ((x[k].toNat : Int) == 37) = false ∧ ((x[k].toNat : Int) == 40) = false ∧ ((x[k].toNat : Int) == 41) = true) ∨ (¬ (x[k].toNat : Int) < 33 ∧ ¬ (126 : Int) < (x[k].toNat : Int) ∧ ((x[k].toNat : Int) == 37) = false ∧ ((x[k].toNat : Int) == 40) = false ∧ ((x[k].toNat : Int) == 41) = false ∧ ((x[k].toNat : Int) == 58) = true) := by
          simp only [beq_iff_eq, beq_eq_false_iff_ne]
          omega
        clear hcs hbad
        rcases hor with c1 | ⟨c1, c2⟩ | ⟨c1, c2, c3⟩ | ⟨c1, c2, c3, c4⟩ | ⟨c1, c2, c3, c4, c5⟩ | ⟨c1, c2, c3, c4, c5, c6⟩
        all_goals
          go_wp2_with fail
          go_region_held_law (fun _ => True) (first | trivial)
            (first | (refine step_append_lies _ rfl (.tmp 38) (.tmp 47) 50 rfl w.heap.size 5 i0 (.int .u8 0) 1 1 Tryd.underlying50 hi hz0 hz1 hz2 rfl (by decide) u4 (wordB (X.take k)).length (Lib.byteCells (wordB (X.take k))) rfl (HO.out.drew.alloc _) ⟨wr.heap.size, 0, none⟩ 3 3 [.int .u8 37, .int .u8 ((hexB (x[k].toNat / 16)).toNat : Int), .int .u8 ((hexB (x[k].toNat % 16)).toNat : Int)] rfl rfl H1.out H2.out (by decide) H4.out.1 H4.out.2 H5.out _ rfl ?_; intro g cap w1 hown hgrow hat hlt1; have HG := Lib.hid hgrow; have HO1 := Lib.hid hown; clear hgrow hown hat))
          all_goals
            have HNext : Hid (w1.ownsRow w.heap.size 5 1 (.slice (some ⟨g, 0, none⟩) ((wordB (X.take k)).length + 3) cap) (wordB (X.take (k + 1))).length (Lib.byteCells (wordB (X.take (k + 1)))) ∧ Below w.heap.size w w1) := by
              have hlt2 := HO.out.lt
              refine Lib.hid ⟨?_, (HB.out.drew.alloc hbs _).grown HG.out (by show _ ≤ _; rw [World.size_alloc]; exact Nat.le_succ_of_le hbs) (fun j ej => (hlt2 j ej).1)⟩
              rw [HES.out.1, HES.out.2]
              exact HO1.out
            clear H1 H2 H4 H5 HG HO1 HO HB hlt1
            go_wp2
            go_roundw
            case rel => exact ⟨k + 1, by omega, by go_num, HNext.out.1, HNext.out.2⟩
            case measure => simp [intOf]; omega
      · have HES : Hid (Lib.byteCells (wordB (X.take (k + 1))) = Lib.byteCells (wordB (X.take k)) ++ [.int .u8 (x[k].toNat : Int)] ∧ (wordB (X.take (k + 1))).length = (wordB (X.take k)).length + 1) := Lib.hid (by
          rw [HS.out, byteCells_app]
          unfold escB
          rw [if_neg hbad]
          exact ⟨rfl, by simp⟩)
        have hcs := fun h => hbad ((HBI.out).2 h)
        have c1 : ¬ (x[k].toNat : Int) < 33 := fun h => hcs (.inl h)
        have c2 : ¬ (126 : Int) < (x[k].toNat : Int) := fun h => hcs (.inr (.inl h))
        have c3 : ((x[k].toNat : Int) == 37) = false := neq_of (fun h => hcs (.inr (.inr (.inl h))))
        have c4 : ((x[k].toNat : Int) == 40) = false := neq_of (fun h => hcs (.inr (.inr (.inr (.inl h)))))
        have c5 : ((x[k].toNat : Int) == 41) = false := neq_of (fun h => hcs (.inr (.inr (.inr (.inr (.inl h))))))
        have c6 : ((x[k].toNat : Int) == 58) = false := neq_of (fun h => hcs (.inr (.inr (.inr (.inr (.inr h))))))
        have H1 : Hid (∀ (j : Nat) (u : Value), [Value.int .u8 (x[k].toNat : Int)][j]? = some u → (wr.alloc (.cells #[.int .u8 (x[k].toNat : Int)] 5)).cell? ((⟨wr.heap.size, 0, none⟩ : Addr).add j) = some u) := Lib.hid (World.news_of_block (World.alloc_heap_new wr (.cells #[.int .u8 (x[k].toNat : Int)] 5)))
        have H2 : Hid (∀ u ∈ [Value.int .u8 (x[k].toNat : Int)], u.oneCell' = true) := Lib.hid (by simp [Value.oneCell'])
        have H4 : Hid ((wordB (X.take k)).length + 1 ≤ maxLen ∧ ((wordB (X.take k)).length + 1) * 1 ≤ 140737488355328) := Lib.hid ⟨by have := H3.out; unfold maxLen; omega, by have := H3.out; omega⟩
        have H5 : Hid (w.heap.size ≤ (wr.alloc (.cells #[.int .u8 (x[k].toNat : Int)] 5)).heap.size) := Lib.hid (by rw [World.size_alloc]; exact Nat.le_succ_of_le hbs)
        clear hcs hbad
        go_wp2_with (at_builtin; refine wpList_append_lies _ rfl (.tmp 49) (.tmp 51) 50 rfl w.heap.size 5 i0 (.int .u8 0) 1 1 Tryd.underlying50 hi hz0 hz1 hz2 rfl (by decide) u4 _ _ rfl (HO.out.alloc _) ⟨wr.heap.size, 0, none⟩ 1 1 [.int .u8 (x[k].toNat : Int)] rfl rfl H1.out H2.out (by decide) H4.out.1 H4.out.2 H5.out _ rfl ?_; intro g cap w1 hown hgrow hat hlt1; have HG := Lib.hid hgrow; have HO1 := Lib.hid hown; clear hown hgrow hat hlt1)
        have HNext : Hid (w1.ownsRow w.heap.size 5 1 (.slice (some ⟨g, 0, none⟩) ((wordB (X.take k)).length + 1) cap) (wordB (X.take (k + 1))).length (Lib.byteCells (wordB (X.take (k + 1)))) ∧ Below w.heap.size w w1) := by
          have hlt2 := HO.out.lt
          refine Lib.hid ⟨?_, (HB.out.alloc hbs _).grown HG.out H5.out (fun j ej => (hlt2 j ej).1)⟩
          rw [HES.out.1, HES.out.2]
          exact HO1.out
        clear H1 H2 H4 H5 HG HO1 HO HB
        go_roundw
        case rel => exact ⟨k + 1, by omega, by go_num, HNext.out.1, HNext.out.2⟩
        case measure => simp [intOf]; omega
    · obtain rfl : k = x.size := by omega
      have hcv := own_conv (HO.out)
      rw [HXZ.out, List.take_length] at hcv
      obtain ⟨a7, c7, rfl⟩ := own_form HO.out
      go_wp2
      go_ret
      exact ⟨rfl, HB.out⟩
end Go.Proofs.YtbegplfijjbpcaaDoor.No
/- How long a show is. -/
namespace Go.Proofs.YtbegplfijjbpcaaDoor.No
open Go Go.RowKit Go.Shelf

def sumL (l : List Nat) : Nat := l.foldr (· + ·) 0
theorem sumL_cons (a : Nat) (l : List Nat) : sumL (a :: l) = a + sumL l := rfl
theorem sumL_app : ∀ (a b : List Nat), sumL (a ++ b) = sumL a + sumL b
  | [], b => by show sumL b = 0 + sumL b; omega
  | x :: a, b => by
    rw [List.cons_append, sumL_cons, sumL_cons, sumL_app a b]
    omega
theorem sumL_le {α : Type} (f g : α → Nat) : ∀ (l : List α), (∀ x ∈ l, f x ≤ g x) → sumL (l.map f) ≤ sumL (l.map g)
  | [], _ => Nat.le_refl _
  | x :: l, h => by
    have h1 := sumL_le f g l (fun y hy => h y (List.mem_cons_of_mem _ hy))
    have h2 := h x (List.mem_cons_self ..)
    simp only [List.map_cons, sumL_cons]
    omega
theorem sumL_add {α : Type} (f g : α → Nat) : ∀ (l : List α), sumL (l.map fun x => f x + g x) = sumL (l.map f) + sumL (l.map g)
  | [] => rfl
  | x :: l => by
    have h1 := sumL_add f g l
    simp only [List.map_cons, sumL_cons] at h1 ⊢
    omega
theorem sumL_const {α : Type} (c : Nat) : ∀ (l : List α), sumL (l.map fun _ => c) = l.length * c
  | [] => by simp [sumL]
  | x :: l => by
    have h1 := sumL_const c l
    simp only [List.map_cons, sumL_cons, List.length_cons] at h1 ⊢
    rw [h1, Nat.add_mul]
    omega
theorem sumR (f : Nat → Nat) (n : Nat) : sumL ((List.range (n + 1)).map f) = sumL ((List.range n).map f) + f n := by
  rw [List.range_succ, List.map_append, sumL_app]
  rfl
/-- A place ahead of n counts once. -/
theorem one_of (f : Nat → Nat) (a : Nat) : ∀ n, a < n → sumL ((List.range n).map fun j => (if a = j then 1 else 0) * f j) = f a := fun n => by
  have z : ∀ n, n ≤ a → sumL ((List.range n).map fun j => (if a = j then 1 else 0) * f j) = 0 := fun n => by
    induction n with
    | zero => intro _; rfl
    | succ n ih =>
      intro h
      rw [sumR, ih (by omega), if_neg (by omega)]
      omega
  induction n with
  | zero => intro h; omega
  | succ n ih =>
    intro h
    rw [sumR]
    by_cases e : a = n
    · subst e
      rw [z _ (Nat.le_refl _), if_pos rfl]
      omega
    · rw [ih (by omega), if_neg e]
      omega
theorem sum_count (f : Nat → Nat) (n : Nat) : ∀ (P : List Int), (∀ a ∈ P, 0 ≤ a ∧ a < (n : Int)) → sumL (P.map fun a => f a.toNat) = sumL ((List.range n).map fun j : Nat => P.count (j : Int) * f j)
  | [], _ => by
    have : sumL ((List.range n).map fun j : Nat => ([] : List Int).count (j : Int) * f j) = sumL ((List.range n).map fun _ => 0) := by simp
    rw [this, sumL_const]
    simp [sumL]
  | a :: P, h => by
    have h1 := sum_count f n P (fun b hb => h b (List.mem_cons_of_mem _ hb))
    have h2 := h a (List.mem_cons_self ..)
    obtain ⟨m, rfl⟩ : ∃ m : Nat, a = (m : Int) := ⟨a.toNat, by omega⟩
    have h3 := one_of f m n (by omega)
    rw [List.map_cons, sumL_cons, h1]
    have e : (fun j : Nat => ((m : Int) :: P).count (j : Int) * f j) = fun j : Nat => P.count (j : Int) * f j + (if m = j then 1 else 0) * f j := by
      funext j
      rw [List.count_cons, Nat.add_mul]
      congr 2
      by_cases e : m = j
      · subst e; simp
      · rw [if_neg e, if_neg]
        intro h
        have := eq_of_beq h
        omega
    rw [e, sumL_add, h3, Int.toNat_natCast]
    omega
/-- Places ahead of n, none twice: no more than all of them. -/
theorem sum_once (f : Nat → Nat) (n : Nat) (P : List Int) (h : ∀ a ∈ P, 0 ≤ a ∧ a < (n : Int)) (h1 : ∀ j : Nat, j < n → P.count (j : Int) ≤ 1) : sumL (P.map fun a => f a.toNat) ≤ sumL ((List.range n).map f) := by
  rw [sum_count f n P h]
  refine sumL_le _ _ _ (fun j hj => ?_)
  have := h1 j (List.mem_range.1 hj)
  calc P.count (j : Int) * f j ≤ 1 * f j := Nat.mul_le_mul_right _ this
    _ = f j := Nat.one_mul _

/-! ### Shows -/
def accS (T : List Nd) (x : Nd) (l : List Int) : List UInt8 := headB x ++ (l.map fun k => val showC [] T k.toNat).flatMap (fun s => 32 :: s)
theorem accS_snoc (T : List Nd) (x : Nd) (l : List Int) (a : Int) : accS T x (l ++ [a]) = accS T x l ++ [32] ++ val showC [] T a.toNat := by simp [accS]
theorem show_eq {T : List Nd} (h : KidsOk T) {i : Nat} {x : Nd} (hx : T[i]? = some x) : val showC [] T i = if x.kids = [] then headB x else [40] ++ accS T x x.kids ++ [41] := by
  rw [val_eq showC [] hx (h i x hx)]
  rfl
def lenS (T : List Nd) (i : Nat) : Nat := (val showC [] T i).length
theorem flat_len (f : Int → List UInt8) : ∀ l : List Int, ((l.map f).flatMap (fun s => 32 :: s)).length = sumL (l.map fun k => (f k).length + 1)
  | [] => rfl
  | a :: l => by
    simp only [List.map_cons, List.flatMap_cons, List.length_append, List.length_cons, sumL_cons]
    rw [flat_len f l]
theorem accS_len (T : List Nd) (x : Nd) (l : List Int) : (accS T x l).length = (headB x).length + sumL (l.map fun k => lenS T k.toNat + 1) := by
  unfold accS
  rw [List.length_append, flat_len]
  rfl
theorem lenS_le {T : List Nd} (h : KidsOk T) {i : Nat} {x : Nd} (hx : T[i]? = some x) : lenS T i ≤ (headB x).length + 2 + sumL (x.kids.map fun k => lenS T k.toNat + 1) := by
  unfold lenS
  rw [show_eq h hx]
  split
  · omega
  · rw [List.length_append, List.length_append, accS_len]
    simp only [List.length_singleton, lenS]
    omega
theorem allKids_app (A B : List Nd) : allKids (A ++ B) = allKids A ++ allKids B := by unfold allKids; rw [List.flatMap_append]
def headN (T : List Nd) (j : Nat) : Nat := match T[j]? with
  | some x => (headB x).length + 2
  | none => 0
theorem sum_shows {T : List Nd} (h : KidsOk T) : ∀ n, n ≤ T.length → sumL ((List.range n).map (lenS T)) ≤ sumL ((List.range n).map (headN T)) + sumL ((allKids (T.take n)).map fun k => lenS T k.toNat + 1) := fun n => by
  induction n with
  | zero => intro _; exact Nat.zero_le _
  | succ n ih =>
    intro hn
    obtain ⟨x, hx⟩ : ∃ x, T[n]? = some x := ⟨_, List.getElem?_eq_getElem (by omega)⟩
    have h1 := ih (by omega)
    have h2 := lenS_le h hx
    have h3 : allKids (T.take (n + 1)) = allKids (T.take n) ++ x.kids := by
      rw [List.take_add_one, hx, allKids_app]
      simp [allKids]
    rw [sumR, sumR, h3, List.map_append, sumL_app]
    have h4 : headN T n = (headB x).length + 2 := by unfold headN; rw [hx]
    omega
theorem count_take (T : List Nd) (n : Nat) (j : Int) : (allKids (T.take n)).count j ≤ (allKids T).count j := by
  have : allKids T = allKids (T.take n) ++ allKids (T.drop n) := by rw [← allKids_app, List.take_append_drop]
  rw [this, List.count_append]
  omega
theorem take_kids {T : List Nd} (h : KidsOk T) (n : Nat) : ∀ a ∈ allKids (T.take (n + 1)), 0 ≤ a ∧ a < (n : Int) := fun a ha => by
  unfold allKids at ha
  obtain ⟨x, hx, hax⟩ := List.mem_flatMap.1 ha
  obtain ⟨k, hk⟩ := List.getElem?_of_mem hx
  rw [List.getElem?_take] at hk
  split at hk
  · have := h k x hk a hax
    omega
  · cases hk
theorem dig_len (k : Int) : (digB k).length ≤ 2 := by
  unfold digB
  split <;> simp
theorem head_le {x : Nd} (h : x.text.length ≤ 10000000) : (headB x).length ≤ 30000003 := by
  have h1 := word_len x.text
  have h2 := dig_len x.kind
  unfold headB
  rw [List.length_append, List.length_cons]
  omega
theorem show_len {T : List Nd} (h : RightT T) (ht : ∀ x ∈ T, x.text.length ≤ 10000000) {i : Nat} (hi : i < T.length) : lenS T i ≤ 100000000000 := by
  have h1 := sum_shows h.kidsOk (i + 1) (by omega)
  have h2 := sum_once (fun k => lenS T k + 1) i (allKids (T.take (i + 1))) (take_kids h.kidsOk i) (fun j hj => by
    have := h.once j (by omega)
    have := count_take T (i + 1) (j : Int)
    omega)
  have h3 := sumL_add (lenS T) (fun _ => 1) (List.range i)
  have h4 := sumL_const 1 (List.range i)
  have h5 : sumL ((List.range (i + 1)).map (headN T)) ≤ sumL ((List.range (i + 1)).map fun _ => 30000005) := by
    refine sumL_le _ _ _ (fun j hj => ?_)
    unfold headN
    split
    · rename_i x hx
      have := head_le (ht x (List.mem_of_getElem? hx))
      omega
    · omega
  rw [sumL_const, List.length_range] at h5
  rw [sumR] at h1
  rw [List.length_range] at h4
  have h6 := h.max
  rw [h3] at h2
  have h7 : (i + 1) * 30000005 ≤ 400 * 30000005 := Nat.mul_le_mul_right _ (by omega)
  omega
end Go.Proofs.YtbegplfijjbpcaaDoor.No
/- The plain Show. -/
namespace Go.Proofs.YtbegplfijjbpcaaDoor.No
open Go Go.RowKit Go.Shelf
attribute [local go_sem] Oper.semAt_some

theorem form_kind {x : Nd} (h : formB x = true) : 1 ≤ x.kind ∧ x.kind ≤ 14 := by
  unfold formB at h
  repeat' split at h
  all_goals first
    | omega
    | cases h

theorem acc_full (T : List Nd) (x : Nd) (j : Nat) : (accS T x (x.kids.take j)).length ≤ (accS T x x.kids).length := by
  rw [accS_len, accS_len]
  have e : x.kids = x.kids.take j ++ x.kids.drop j := (List.take_append_drop j x.kids).symm
  have h : sumL (x.kids.map fun k => lenS T k.toNat + 1) = sumL ((x.kids.take j).map fun k => lenS T k.toNat + 1) + sumL ((x.kids.drop j).map fun k => lenS T k.toNat + 1) := by
    rw [← sumL_app, ← List.map_append, ← e]
  omega
theorem acc_le {T : List Nd} (h : KidsOk T) {i : Nat} {x : Nd} (hx : T[i]? = some x) (j : Nat) : (accS T x (x.kids.take j)).length ≤ lenS T i := by
  have h1 := acc_full T x j
  unfold lenS
  rw [show_eq h hx]
  split
  · rename_i hk
    rw [hk] at h1 ⊢
    simp [accS]
  · rw [List.length_append, List.length_append]
    omega

set_option maxHeartbeats 8000000 in
set_option maxRecDepth 100000 in
/-- show(t, at). -/
theorem show_c (v : Value) (T : List Nd) (hR : RightT T) (ht : ∀ x ∈ T, x.text.length ≤ 10000000) : ∀ (i : Nat), i < T.length → ∀ w, NL w v T →
    Calls Tryd.prog 32 #[v, .int .i64 (i : Int)] w fun e W' => e = .returned (.string (bs (val showC [] T i))) ∧ Below w.heap.size w W' := by
  intro i
  induction i using Nat.strongRecOn with
  | _ i ih =>
  intro hi w hT
  have HIH : Hid (∀ j, j < i → ∀ w, NL w v T → Calls Tryd.prog 32 #[v, .int .i64 (j : Int)] w fun e W' => e = .returned (.string (bs (val showC [] T j))) ∧ Below w.heap.size w W') := Lib.hid (fun j hj w h => ih j hj (by omega) w h)
  clear ih
  have hN := hR.kidsOk
  obtain ⟨x, hx⟩ : ∃ x, T[i]? = some x := ⟨_, List.getElem?_eq_getElem hi⟩
  have hD := show_eq hN hx
  have hkd := form_kind (hR.node i x hx).1
  have htx := ht x (List.mem_of_getElem? hx)
  have HKI : Hid (∀ a ∈ x.kids, 0 ≤ a ∧ a < (i : Int)) := Lib.hid (hN i x hx)
  have HLEN : Hid (∀ j, j < T.length → lenS T j ≤ 100000000000) := Lib.hid (fun j hj => show_len hR ht hj)
  have HACC : Hid (∀ j, (accS T x (x.kids.take j)).length ≤ 100000000000) := Lib.hid (fun j => Nat.le_trans (acc_le hN hx j) (show_len hR ht hi))
  have HTB : Hid (∀ W, Below w.heap.size w W → NL W v T) := Lib.hid (fun W hW => hT.below hW)
  obtain ⟨a0, c0, rfl, hc1, hc2⟩ := hT.form
  unfold maxLen at hc2
  obtain ⟨g, o, c1, hv, hg, hcs⟩ := hT.cells (by omega)
  obtain rfl : a0 = some ⟨g, o, none⟩ := by injection hv
  obtain ⟨x0, x1, kx, x2, xk⟩ := hcs i x hx
  obtain ⟨kd, hkd2⟩ : ∃ n, n = x.kind := ⟨_, rfl⟩
  obtain ⟨tx, htx2⟩ : ∃ n, n = bs x.text := ⟨_, rfl⟩
  obtain ⟨dg, hdg⟩ : ∃ n, n = bs (digB x.kind) := ⟨_, rfl⟩
  obtain ⟨wd, hwd⟩ : ∃ n, n = bs (wordB x.text) := ⟨_, rfl⟩
  have HDG : Hid (∀ W, Calls Tryd.prog 51 #[.int .i64 kd] W fun e W' => e = .returned (.string dg) ∧ Below W.heap.size W W') := Lib.hid (fun W => by rw [hkd2, hdg]; exact digits_c _ W (by omega) hkd.2)
  have HWD : Hid (∀ W, Calls Tryd.prog 52 #[.string tx] W fun e W' => e = .returned (.string wd) ∧ Below W.heap.size W W') := Lib.hid (fun W => by rw [htx2, hwd]; exact word_c _ htx W)
  have HHS : Hid (dg ++ ⟨#[58]⟩ ++ wd = bs (accS T x (x.kids.take 0))) := Lib.hid (by
    rw [hdg, hwd]
    show bs (digB x.kind) ++ bs [58] ++ bs (wordB x.text) = _
    rw [bs_app, bs_app]
    unfold accS headB
    simp)
  have hdgs : dg.size ≤ 2 := by rw [hdg, bs_size]; exact dig_len _
  have hwds : wd.size ≤ 30000000 := by rw [hwd, bs_size]; have := word_len x.text; omega
  obtain ⟨ka, kc, rfl, hl1, hl2⟩ := xk.form
  unfold maxLen at hl2
  obtain ⟨n, hn⟩ : ∃ n, n = T.length := ⟨_, rfl⟩
  obtain ⟨K, hK⟩ : ∃ n, n = x.kids.length := ⟨_, rfl⟩
  obtain ⟨R, hRR⟩ : ∃ n, n = val showC [] T i := ⟨_, rfl⟩
  rw [← hRR] at hD ⊢
  rw [← hn] at hc1 hi HIH HTB HLEN ⊢
  have HN := Lib.hid hn
  have HK := Lib.hid hK
  have HD := Lib.hid hD
  have HXK := Lib.hid xk
  rw [← hK] at x2 hl1
  rw [← hkd2] at x0
  rw [← htx2] at x1
  have HRW : Hid (Row ((w.alloc (.cells #[.int .i64 kd, .string tx, .slice ka K kc] 42)).drew) w.heap.size 42 #[.int .i64 kd, .string tx, .slice ka K kc]) := Lib.hid ((Row.new w 42 #[.int .i64 kd, .string tx, .slice ka K kc]).drew)
  have HB1 : Hid (Below w.heap.size w ((w.alloc (.cells #[.int .i64 kd, .string tx, .slice ka K kc] 42)).drew)) := Lib.hid ((Below.refl _ w).alloc (Nat.le_refl _) _).drew
  have HGS := Lib.hid hg
  obtain ⟨z0, z1, z2, -⟩ := node_cells HRW.out
  clear hT hv hcs xk hx hn hK hD hRR hkd2 htx2 hdg hwd hkd htx hR ht hN hg
  go_enter Tryd.func32, Tryd.ntmps32
  go_wp2_with fail
  clear x0 x1 x2
  go_region_held_law (fun w' => w'.cell? ⟨w.heap.size, 0, none⟩ = some (.int .i64 kd) ∧ w'.cell? ⟨w.heap.size, 1, none⟩ = some (.string tx)) (first | exact HX8.out | exact HX7.out | exact ⟨z0, z1⟩ | go_keep)
    ((first
      | (go_at_call 51; refine (HDG.out _).mono ?_; rintro e w7 ⟨rfl, hb7⟩; have HR7 := Lib.hid (HRW.out.below hb7 HRW.out.lt); have HB7 := Lib.hid (HB1.out.trans (hb7.mono HB1.out.size)); have HX7 := Lib.hid (And.intro (node_cells HR7.out).1 (node_cells HR7.out).2.1); clear hb7)
      | (go_at_call 52; refine (HWD.out _).mono ?_; rintro e w8 ⟨rfl, hb8⟩; have HR8 := Lib.hid (HR7.out.below hb8 HR7.out.lt); have HB8 := Lib.hid (HB7.out.trans (hb8.mono HB7.out.size)); have HX8 := Lib.hid (And.intro (node_cells HR8.out).1 (node_cells HR8.out).2.1); clear hb8)))
  all_goals
    rw [HHS.out]
    obtain ⟨S0, hS0⟩ : ∃ S, S = bs (accS T x (x.kids.take 0)) := ⟨_, rfl⟩
    rw [← hS0]
    have HS0 := Lib.hid hS0
    clear hdgs hwds z0 z1 z2 hS0
    obtain ⟨-, -, z2, -⟩ := node_cells HR8.out
    by_cases hK0 : K = 0
    · have HR0 : Hid (S0 = bs R) := Lib.hid (by
        rw [HS0.out]
        have h0 : x.kids = [] := List.eq_nil_of_length_eq_zero (by rw [← HK.out]; exact hK0)
        rw [HD.out, if_pos h0]
        simp [accS])
      have t0 : ((K : Int) == 0) = true := by rw [hK0]; rfl
      clear hK0
      go_wp2
      go_ret
      exact ⟨by rw [← HR0.out]; rfl, HB8.out⟩
    · have HR0 : Hid (⟨#[40]⟩ ++ bs (accS T x (x.kids.take K)) ++ ⟨#[41]⟩ = bs R) := Lib.hid (by
        have h0 : x.kids ≠ [] := fun e => hK0 (by rw [HK.out, e]; rfl)
        rw [HD.out, if_neg h0, HK.out, List.take_length]
        show bs [40] ++ bs _ ++ bs [41] = _
        rw [bs_app, bs_app])
      have t0 : ((K : Int) == 0) = false := neq_of (by omega)
      clear hK0
      go_wp2
      go_loopw [6, 7] (fun s k w' => ∃ j : Nat, j ≤ K ∧ k = .int .i64 j ∧ s = .string (bs (accS T x (x.kids.take j))) ∧ Row w' w.heap.size 42 #[.int .i64 kd, .string tx, .slice ka K kc] ∧ Below w.heap.size w w') (fun _ k _ => K - (intOf k).toNat)
      case atStart => exact ⟨0, Nat.zero_le _, rfl, by rw [HS0.out], HR8.out, HB8.out⟩
      case round =>
        obtain ⟨j, hj, rfl, rfl, hr, hB⟩ := hrel
        have HR := Lib.hid hr
        have HB := Lib.hid hB
        obtain ⟨-, -, y2, -⟩ := node_cells hr
        have hsz : (bs (accS T x (x.kids.take j))).size ≤ 100000000000 := by rw [bs_size]; exact HACC.out j
        by_cases hjK : j < K
        · obtain ⟨gk, ok, ck, hv, hgk, hck⟩ := HXK.out.cells (by rw [← HK.out]; omega)
          rw [← HK.out] at hv
          obtain rfl : ka = some ⟨gk, ok, none⟩ := by injection hv
          obtain ⟨a, ha⟩ : ∃ a, x.kids[j]? = some a := ⟨_, List.getElem?_eq_getElem (by rw [← HK.out]; exact hjK)⟩
          have hai := HKI.out a (List.mem_of_getElem? ha)
          obtain ⟨m, rfl⟩ : ∃ m : Nat, a = (m : Int) := ⟨a.toNat, by omega⟩
          have e1 := (hB.cell (p := ⟨gk, ok + j, none⟩) hgk).trans (hck j _ ha)
          have HC := Lib.hid (HIH.out m (by omega) wr (HTB.out wr hB))
          have hzs : (bs (val showC [] T m)).size ≤ 100000000000 := by rw [bs_size]; exact HLEN.out m (by omega)
          have hnx : bs (accS T x (x.kids.take j)) ++ ⟨#[32]⟩ ++ bs (val showC [] T m) = bs (accS T x (x.kids.take (j + 1))) := by
            rw [List.take_add_one, ha]
            show bs _ ++ bs [32] ++ bs _ = bs (accS T x (_ ++ [(m : Int)]))
            rw [accS_snoc, bs_app, bs_app]
            rfl
          have HNX := Lib.hid hnx
          obtain ⟨S, hS⟩ : ∃ S, S = bs (accS T x (x.kids.take j)) := ⟨_, rfl⟩
          obtain ⟨Z, hZ⟩ : ∃ Z, Z = bs (val showC [] T m) := ⟨_, rfl⟩
          rw [← hS] at hsz HNX ⊢
          rw [← hZ] at hzs HNX HC
          clear hB hr hv hgk hck ha hnx hS hZ
          go_wp2_with fail
          refine HC.out.mono ?_
          rintro e w2 ⟨rfl, hb2⟩
          have HR2 := Lib.hid (HR.out.below hb2 HR.out.lt)
          have HB2 := Lib.hid (HB.out.trans (hb2.mono HB.out.size))
          clear hb2
          go_wp2
          go_roundw
          case rel => exact ⟨j + 1, by omega, by go_num, by rw [← HNX.out], HR2.out, HB2.out⟩
          case measure => simp [intOf]; omega
        · obtain rfl : j = K := by omega
          obtain ⟨S, hS⟩ : ∃ S, S = bs (accS T x (x.kids.take j)) := ⟨_, rfl⟩
          rw [← hS] at hsz HR0 ⊢
          clear hB hr hS
          go_wp2
          go_ret
          exact ⟨by rw [← HR0.out]; rfl, HB.out⟩
set_option maxHeartbeats 4000000 in
set_option maxRecDepth 100000 in
/-- Show(t). -/
theorem rshow_c (v : Value) (T : List Nd) (w : World) (hT : NL w v T) (hk : (allKids T).length ≤ 1000000) (ht : ∀ x ∈ T, x.text.length ≤ 10000000) :
    Calls Tryd.prog 14 #[v] w fun e W' => e = .returned (.string (bs (showA T))) ∧ Below w.heap.size w W' := by
  have HR := Lib.hid (right_c v T w hT hk)
  have HTB : Hid (∀ W, Below w.heap.size w W → NL W v T) := Lib.hid (fun W hW => hT.below hW)
  have HTR : Hid (rightB T = true → RightT T) := Lib.hid (right_iff T).1
  obtain ⟨a0, c0, rfl, hc1, hc2⟩ := hT.form
  unfold maxLen at hc2
  obtain ⟨n, hn⟩ : ∃ n, n = T.length := ⟨_, rfl⟩
  unfold showA
  obtain ⟨r, hr⟩ : ∃ n, n = rightB T := ⟨_, rfl⟩
  have HDC : Hid (∀ W, Below w.heap.size w W → r = true → Calls Tryd.prog 32 #[.slice a0 n c0, .int .i64 ((n : Int) - 1)] W fun e W' => e = .returned (.string (bs (val showC [] T (n - 1)))) ∧ Below W.heap.size W W') := Lib.hid (fun W hW h => by
    rw [hr] at h
    have h1 := HTR.out h
    have h2 := h1.pos
    have h3 := show_c _ T h1 ht (T.length - 1) (by omega) W (HTB.out W hW)
    rw [← hn] at h3 h2
    rw [show ((n - 1 : Nat) : Int) = (n : Int) - 1 by omega] at h3
    exact h3)
  have hpn : r = true → 1 ≤ n := fun h => by rw [hn]; rw [hr] at h; exact (HTR.out h).pos
  rw [← hn] at hc1 HR ⊢
  rw [← hr] at HR ⊢
  obtain ⟨z, hz⟩ : ∃ z, z = val showC [] T (n - 1) := ⟨_, rfl⟩
  rw [← hz] at HDC ⊢
  clear hT hn hr hz HTB HTR
  cases r with
  | false =>
    go_enter Tryd.func14, Tryd.ntmps14
    go_wp2_with fail
    refine HR.out.mono ?_
    rintro e w2 ⟨rfl, hb2⟩
    have HB2 := Lib.hid hb2
    clear hb2
    go_wp2
    go_ret
    exact ⟨rfl, HB2.out⟩
  | true =>
    have hp := hpn rfl
    clear hpn
    go_enter Tryd.func14, Tryd.ntmps14
    go_wp2_with fail
    refine HR.out.mono ?_
    rintro e w2 ⟨rfl, hb2⟩
    have HB2 := Lib.hid hb2
    have HD2 := Lib.hid (HDC.out w2 hb2 (by trivial))
    clear hb2
    go_wp2_with fail
    refine HD2.out.mono ?_
    rintro e w3 ⟨rfl, hb3⟩
    have HB3 := Lib.hid (HB2.out.trans (hb3.mono HB2.out.size))
    clear hb3
    go_wp2
    go_ret
    exact ⟨rfl, HB3.out⟩
end Go.Proofs.YtbegplfijjbpcaaDoor.No
