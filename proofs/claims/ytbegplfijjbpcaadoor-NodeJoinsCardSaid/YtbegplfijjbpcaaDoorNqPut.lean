/- The program: copies of nodes are put behind those that are there: the call. -/
import Derived.Test.YtbegplfijjbpcaaDoorNqPut0
import Derived.Test.YtbegplfijjbpcaaDoorNqReg
namespace Go.Proofs.YtbegplfijjbpcaaDoor.No
open Go Go.RowKit Go.Shelf
attribute [local go_sem] Oper.semAt_some

theorem kids_take2 {T : List Nd} {k : Nat} {x : Nd} (hx : T[k]? = some x) : allKids (T.take (k + 1)) = allKids (T.take k) ++ x.kids := by
  rw [List.take_add_one, hx]
  unfold allKids
  rw [List.flatMap_append]
  simp
theorem grown_below {A B : World} (h : Below A.heap.size A B) (row : Option Nat) : A.grownBy B row := ⟨h.os, h.tape, h.output, h.size, fun k hk _ => h.block k hk⟩
theorem kids_le (T : List Nd) (k : Nat) : (allKids (T.take k)).length ≤ (allKids T).length := by
  have e : allKids T = allKids (T.take k) ++ allKids (T.drop k) := by
    unfold allKids
    rw [← List.flatMap_append, List.take_append_drop]
  rw [e, List.length_append]
  omega
theorem own_blk0 {W : World} {base q n cap sz : Nat} {t : TypeId} {xs : List Value} (h : W.ownsRow base t sz (.slice (some ⟨q, 0, none⟩) n cap) n xs) : ∃ cs, Row W q t cs := by
  rcases h.2 with ⟨hv, _⟩ | ⟨g, cap', cur, e1, _, e3, _⟩
  · cases hv
  · cases e1
    exact ⟨cur, e3⟩

/-- What holds when so many of the four steps are over. -/
def PPs (bb q cap LN base : Nat) (w4 : World) (XS news : List Value) (U : ByteArray) (RM : Value) : Nat → (Nat → Value) → World → Prop
  | 0, _, W => Below w4.heap.size w4 W
  | 1, v, W => Below w4.heap.size w4 W ∧ v 10 = .string U
  | 2, v, W => Below w4.heap.size w4 W ∧ ∃ s, v 13 = .slice (some ⟨s, 0, none⟩) 1 1 ∧ Row W s 42 news.toArray
  | 3, v, W => w4.grownBy W (some q) ∧ v 14 = .slice (some ⟨q, 0, none⟩) (LN + 1) cap ∧ W.ownsRow base 42 3 (.slice (some ⟨q, 0, none⟩) (LN + 1) cap) (LN + 1) (XS ++ news)
  | _, _, W => (∃ X, w4.grownBy X (some q) ∧ X.grownBy W (some bb)) ∧ W.ownsRow base 42 3 (.slice (some ⟨q, 0, none⟩) (LN + 1) cap) (LN + 1) (XS ++ news) ∧ Row W bb 88 #[.slice (some ⟨q, 0, none⟩) (LN + 1) cap, RM]
/-- The room when the first k of a node's kids are moved. -/
def rowK (cs : Array Value) (off K : Nat) (A : List Int) (more : Int) (k : Nat) : Array Value := (cs.toList.take off ++ (nums ((A.take k).map (· + more)) ++ nums (A.drop k)) ++ cs.toList.drop (off + K)).toArray
theorem rowK_zero (cs : Array Value) (off K : Nat) (A : List Int) (more : Int) : rowK cs off K A more 0 = (cs.toList.take off ++ nums A ++ cs.toList.drop (off + K)).toArray := rfl
section
variable {cs : Array Value} {off K : Nat} {A : List Int} {more : Int} {k : Nat}
theorem mid_len (h : A.length = K) : (nums ((A.take k).map (· + more)) ++ nums (A.drop k)).length = K := by
  rw [List.length_append, nums_len, nums_len, List.length_map, List.length_take, List.length_drop]
  omega
theorem rowK_size (h : A.length = K) (hf : off + K ≤ cs.size) : (rowK cs off K A more k).size = cs.size := by
  unfold rowK
  rw [List.size_toArray, List.length_append, List.length_append, mid_len h, List.length_take, List.length_drop, Array.length_toList]
  omega
theorem rowK_lt (hf : off + K ≤ cs.size) {i : Nat} (hi : i < off) : (rowK cs off K A more k)[i]? = cs[i]? := by
  unfold rowK
  rw [List.getElem?_toArray, List.append_assoc, List.getElem?_append_left (by rw [List.length_take, Array.length_toList]; omega), List.getElem?_take, if_pos hi, Array.getElem?_toList]
theorem rowK_mid (h : A.length = K) (hf : off + K ≤ cs.size) {i : Nat} (hi : i < K) {a : Int} (ha : A[i]? = some a) : (rowK cs off K A more k)[off + i]? = some (.int .i64 (if i < k then a + more else a)) := by
  unfold rowK
  have hl : (cs.toList.take off).length = off := by rw [List.length_take, Array.length_toList]; omega
  rw [List.getElem?_toArray, List.append_assoc, List.getElem?_append_right (by omega), hl, show off + i - off = i by omega, List.getElem?_append_left (by rw [mid_len h]; exact hi)]
  by_cases hik : i < k
  · rw [if_pos hik, List.getElem?_append_left (by rw [nums_len, List.length_map, List.length_take]; omega)]
    exact nums_at (by rw [List.getElem?_map, List.getElem?_take, if_pos hik, ha]; rfl)
  · have hn : (nums ((A.take k).map (· + more))).length = k := by rw [nums_len, List.length_map, List.length_take]; omega
    rw [if_neg hik, List.getElem?_append_right (by omega), hn]
    exact nums_at (by rw [List.getElem?_drop, show k + (i - k) = i by omega, ha])
theorem rowK_none (h : A.length = 0) : rowK cs off 0 A more k = cs := by
  obtain rfl : A = [] := List.length_eq_zero_iff.1 h
  unfold rowK
  simp [nums]
theorem rowK_set (h : A.length = K) (hf : off + K ≤ cs.size) (hk : k < K) {a : Int} (ha : A[k]? = some a) : (rowK cs off K A more k).setIfInBounds (off + k) (.int .i64 (a + more)) = rowK cs off K A more (k + 1) := by
  have hA : A = A.take k ++ a :: A.drop (k + 1) := by
    have h1 : A.drop k = a :: A.drop (k + 1) := (List.drop_eq_getElem?_toList_append (l := A) (i := k)).trans (by rw [ha]; rfl)
    rw [← h1, List.take_append_drop]
  have h1 : A.drop k = a :: A.drop (k + 1) := (List.drop_eq_getElem?_toList_append (l := A) (i := k)).trans (by rw [ha]; rfl)
  have h2 : A.take (k + 1) = A.take k ++ [a] := by rw [List.take_add_one, ha]; rfl
  have hl : (cs.toList.take off).length = off := by rw [List.length_take, Array.length_toList]; omega
  have hn : (nums ((A.take k).map (· + more))).length = k := by rw [nums_len, List.length_map, List.length_take]; omega
  unfold rowK
  rw [h1, h2]
  apply Array.ext'
  rw [Array.toList_setIfInBounds]
  show (cs.toList.take off ++ (nums ((A.take k).map (· + more)) ++ nums (a :: A.drop (k + 1))) ++ cs.toList.drop (off + K)).set (off + k) _ = cs.toList.take off ++ (nums ((A.take k ++ [a]).map (· + more)) ++ nums (A.drop (k + 1))) ++ cs.toList.drop (off + K)
  rw [List.append_assoc, List.set_append_right (h := by omega), hl, show off + k - off = k by omega, List.append_assoc (nums _), List.set_append_right (h := by omega), hn, Nat.sub_self]
  simp [nums]
end

set_option maxRecDepth 100000 in
set_option maxHeartbeats 8000000 in
/-- put(more, nodes). -/
theorem put_c (W : World) (base bb q r cap total : Nat) (L : List (Nd × Value)) (u : Nat) (more : Int) (a0 : Option Addr) (c0 : Nat) (T : List Nd) (kv : Nat → Value) (hB : BD W base bb q r cap total L u)
    (hsrc : 0 < T.length → ∃ g o, a0 = some ⟨g, o, none⟩ ∧ ∀ W', Keep3 bb q r W W' → LiesN W' g o kv T) (hc : L.length + T.length ≤ cap) (hr : u + (allKids T).length ≤ total) (hc0 : T.length ≤ c0) (hc1 : c0 ≤ maxLen)
    (hk : ∀ x ∈ T, ∀ a ∈ x.kids, -1000000 ≤ a ∧ a ≤ 1000000) (hm1 : -1000000 ≤ more) (hm2 : more ≤ 1000000) (ht : ∀ x ∈ T, x.text.length ≤ 10000000) :
    Calls Tryd.prog 55 #[.pointer (some ⟨bb, 0, none⟩), .int .i64 more, .slice a0 T.length c0] W fun e W' => (∃ v, e = .returned v) ∧ Keep3 bb q r W W' ∧ ∃ M, M.map (·.1) = T.map (movN more) ∧ BD W' base bb q r cap total (L ++ M) (u + (allKids T).length) := by
  have hmix : Tryd.prog.follows .mixedOrders = true := by kernel_rfl
  obtain ⟨i0, hi, hz0, hz1, hz2⟩ := infoN
  unfold maxLen at hc1
  obtain ⟨n, hn⟩ : ∃ n, n = T.length := ⟨_, rfl⟩
  rw [← hn] at hc hc0 ⊢
  have HN := Lib.hid hn
  have HSRC := Lib.hid hsrc
  have HBD := Lib.hid hB
  have HK := Lib.hid hk
  have HT := Lib.hid ht
  have HRM := Lib.hid hr
  clear hsrc hB hn hk ht hr
  refine (callsIn_wide (n := 5)).1 ?_
  refine callsIn_of_wp Tryd.func55 rfl trivial ?_ rfl
  simp only [Tryd.ntmps55, List.size_toArray, List.length_cons, List.length_nil, Nat.reduceAdd, Nat.reduceSub, Array.replicate_succ, Array.replicate_zero, List.push_toArray, List.append_toArray, List.nil_append, List.cons_append]
  gi_wp2
  gi_loopw [12] (fun i wr => ∃ (j : Nat) (M : List (Nd × Value)), j ≤ n ∧ i = .int .i64 j ∧ M.map (·.1) = (T.take j).map (movN more) ∧ BD wr base bb q r cap total (L ++ M) (u + (allKids (T.take j)).length) ∧ Keep3 bb q r W wr) (fun i _ => n - (intOf i).toNat)
  case atStart => exact ⟨0, [], Nat.zero_le _, rfl, rfl, by rw [List.append_nil]; exact HBD.out, Keep3.refl _ _ _ _⟩
  case round =>
    obtain ⟨j, M, hj, rfl, hM, hBD, hK3⟩ := hrel
    obtain ⟨wo, rfl⟩ : ∃ W, W = wr := ⟨_, rfl⟩
    have HM := Lib.hid hM
    have HB := Lib.hid hBD
    have HK3 := Lib.hid hK3
    by_cases hlt : j < n
    · obtain ⟨g, o, rfl, hlies⟩ := HSRC.out (by rw [← HN.out]; omega)
      obtain ⟨x, hx⟩ : ∃ x, T[j]? = some x := ⟨_, List.getElem?_eq_getElem (by rw [← HN.out]; exact hlt)⟩
      obtain ⟨y0, y1, y2, hkl⟩ := hlies wo hK3 j x hx
      obtain ⟨ka, kc, hkv, hkc1, hkc2⟩ := hkl.form
      unfold maxLen at hkc2
      have hxk := HK.out x (List.mem_of_getElem? hx)
      have hxt := HT.out x (List.mem_of_getElem? hx)
      have hktk := kids_take2 hx
      have hle : u + (allKids (T.take (j + 1))).length ≤ total := by
        have h1 := HRM.out
        have h2 : (allKids (T.take (j + 1))).length ≤ (allKids T).length := kids_le T (j + 1)
        omega
      rw [hktk, List.length_append, ← Nat.add_assoc] at hle
      have hML : M.length = j := by
        have := congrArg List.length hM
        rw [List.length_map, List.length_map, List.length_take, ← HN.out] at this
        omega
      obtain ⟨off, hrow, hoff⟩ := hBD.row
      obtain ⟨cs, hrr, hcs, hki⟩ := hBD.room
      have hnd := hBD.nodes
      have hbase := hBD.bb
      have hrbase := hBD.rb
      have hfew := hBD.few
      obtain ⟨uu, huu⟩ : ∃ k, k = u + (allKids (T.take j)).length := ⟨_, rfl⟩
      obtain ⟨LN, hLN⟩ : ∃ k, k = (L ++ M).length := ⟨_, rfl⟩
      have hLN2 : LN + 1 ≤ cap := by rw [hLN, List.length_append, hML]; omega
      obtain ⟨XS, hXS⟩ : ∃ l, l = cellsN (L ++ M) := ⟨_, rfl⟩
      rw [← huu] at hrow hoff hle hki
      rw [← hLN] at hrow hnd
      rw [← hXS] at hnd
      obtain ⟨KN, hKN⟩ : ∃ k, k = x.kids.length := ⟨_, rfl⟩
      obtain ⟨kd, hkd⟩ : ∃ k, k = x.kind := ⟨_, rfl⟩
      obtain ⟨U, hU⟩ : ∃ k, k = bs x.text := ⟨_, rfl⟩
      rw [hkv] at y2 hkl
      rw [← hKN] at y2 hkl hkc1 hle
      rw [← hkd] at y0
      rw [← hU] at y1
      have hKNl : KN ≤ total - uu := by omega
      have hoff0 : 0 < KN → off = uu := fun h => hoff (by omega)
      have hfit : off + KN ≤ cs.size ∨ KN = 0 := by
        rcases Nat.eq_zero_or_pos KN with h | h
        · exact .inr h
        · exact .inl (by rw [hoff0 h, hcs]; omega)
      have nbq : bb ≠ q := by obtain ⟨c, hc'⟩ := own_blk0 hnd; exact row_apart hrow hc' (by decide)
      have nbr : bb ≠ r := row_apart hrow hrr (by decide)
      have nqr : q ≠ r := by obtain ⟨c, hc'⟩ := own_blk0 hnd; exact row_apart hc' hrr (by decide)
      have hql : q < wo.heap.size := (hnd.lt _ rfl).2
      have HX := Lib.hid hx
      have HKV := Lib.hid hkv
      have HROW := Lib.hid hrow
      have HRR := Lib.hid hrr
      have HND := Lib.hid hnd
      have HOFF := Lib.hid hoff
      have hlies2 : ∀ W', Keep3 bb q r W W' → KL W' (.slice ka KN kc) x.kids := fun W' hW' => by
        obtain ⟨_, _, _, h4⟩ := hlies W' hW' j x hx
        rw [hkv, ← hKN] at h4
        exact h4
      obtain ⟨w1, hw1⟩ : ∃ w1, w1 = wo.alloc (.cells #[.int .i64 kd, .string U, .slice ka KN kc] 42) := ⟨_, rfl⟩
      have hb1 : Below wo.heap.size wo w1 := by rw [hw1]; exact (Below.refl _ _).alloc (Nat.le_refl _) _
      have rX1 : Row w1 wo.heap.size 42 #[.int .i64 kd, .string U, .slice ka KN kc] := by rw [hw1]; exact Row.new _ _ _
      have hbl := hrow.lt
      have hrl := hrr.lt
      have HPL := Lib.hid (places_any w1 bb r off (total - uu) KN _ (hrow.below hb1 hbl) hKNl (by omega))
      have HW1 := Lib.hid hw1
      have HRX := Lib.hid rX1
      have HR1 := Lib.hid (hrr.below hb1 hrl)
      have HN1 := Lib.hid (own_kept hnd hb1)
      have HB1 := Lib.hid hb1
      have HL2 := Lib.hid hlies2
      have HKN := Lib.hid hKN
      have HKD := Lib.hid hkd
      have HU := Lib.hid hU
      have HKI := Lib.hid hki
      have HCS := Lib.hid hcs
      have HUU := Lib.hid huu
      have HLNN := Lib.hid hLN
      have HXS := Lib.hid hXS
      have hUs : U.size ≤ 10000000 := by rw [hU, bs_size]; exact hxt
      have HXK := Lib.hid hxk
      have hOff2 : KN ≠ 0 → off + KN ≤ cs.size := fun h => by rw [hoff0 (by omega), hcs]; omega
      have HO2 := Lib.hid hOff2
      clear hlies2 hw1 rX1 hb1 hrow hrr hnd hki hcs huu hLN hXS hKN hkd hU hoff hoff0 hfit hM hBD hK3 hx hkl hkv hktk hlies hxk hxt hOff2
      gi_wp2_with fail
      refine ⟨trivial, ?_⟩
      gi_at_call 61
      rw [← HW1.out]
      refine (callsIn_wide.2 HPL.out).mono ?_
      rintro e w2 ⟨kA, off', rfl, hz, hp, ho', hrow2, hg2⟩
      have rX2 := row_grown HRX.out hg2 (fun e => by injection e with e; omega)
      have rR2 := row_grown HR1.out hg2 (fun e => by injection e with e; exact nbr e)
      have nd2 := World.ownsRow.kept HN1.out hg2 (.inr (fun e => nbq (by simpa [Value.ownBlock] using e.symm)))
      have hK2 : Keep3 bb q r W w2 := HK3.out.trans ((Keep3.of_below HB1.out).trans (Keep3.of_grown hg2 (.inl rfl)))
      obtain ⟨w3, hcp, hr3, hg3⟩ := copy_any w2 r off KN kc kA ka cs x.kids HKN.out.symm hz hp rR2 (fun h => HO2.out (by omega)) (HL2.out w2 hK2)
      rw [← rowK_zero cs off KN x.kids more] at hr3
      obtain ⟨_, _, b2, _, _, _⟩ := node_cells rX2
      have HRX3 := Lib.hid (row_grown rX2 hg3 (fun e => by injection e with e; omega))
      have HB3 := Lib.hid (row_grown hrow2 hg3 (fun e => by injection e with e; exact nbr e.symm))
      have HN3 := Lib.hid (World.ownsRow.kept nd2 hg3 (.inr (fun e => nqr (by simpa [Value.ownBlock] using e))))
      have HK2 := Lib.hid (hK2.trans (Keep3.of_grown hg3 (.inr (.inr rfl))))
      have HR3 := Lib.hid hr3
      have HZ := Lib.hid hz
      have HP := Lib.hid hp
      have HO' := Lib.hid ho'
      clear hg2 rX2 rR2 nd2 hK2 hr3 hg3 hrow2 hz hp ho'
      gi_wp2
      gi_loopw [27] (fun i w' => ∃ k : Nat, k ≤ KN ∧ i = .int .i64 k ∧ Row w' r 3 (rowK cs off KN x.kids more k) ∧ w3.grownBy w' (some r)) (fun i _ => KN - (intOf i).toNat)
      case atStart => exact ⟨0, Nat.zero_le _, rfl, HR3.out, grown_refl _ _⟩
      case round =>
        obtain ⟨k, hkK, rfl, hrk, hgk⟩ := hrel
        by_cases hlt2 : k < KN
        · obtain rfl := HP.out (by omega)
          obtain ⟨a, ha⟩ : ∃ a, x.kids[k]? = some a := ⟨_, List.getElem?_eq_getElem (by rw [← HKN.out]; exact hlt2)⟩
          have hab := HXK.out a (List.mem_of_getElem? ha)
          have ha1 := hab.1
          have ha2 := hab.2
          have hfit := HO2.out (by omega)
          have e1 : wr.cell? ⟨r, off + k, none⟩ = some (.int .i64 a) := by
            rw [hrk.cell (off + k), rowK_mid HKN.out.symm hfit hlt2 ha, if_neg (by omega)]
          have f1 : wr.frozen? ⟨r, off + k, none⟩ = false := hrk.frozen (off + k)
          have HNX : Hid (Row (wr.setCell ⟨r, off + k, none⟩ (.int .i64 (a + more))) r 3 (rowK cs off KN x.kids more (k + 1))) := Lib.hid (by
            have := hrk.set (off + k) (.int .i64 (a + more))
            rw [rowK_set HKN.out.symm hfit hlt2 ha] at this
            exact this)
          have HGK := Lib.hid hgk
          clear hrk hgk ha hab
          gi_wp2
          go_roundw
          case rel => exact ⟨k + 1, by omega, by go_num, HNX.out, HGK.out.trans (grown_set _ _ _ _)⟩
          case measure => simp [intOf]; omega
        · obtain rfl : KN = k := by omega
          have HRB4 := Lib.hid (row_grown HB3.out hgk (fun e => by injection e with e; exact nbr e.symm))
          have HRX4 := Lib.hid (row_grown HRX3.out hgk (fun e => by injection e with e; omega))
          have HND4 := Lib.hid (World.ownsRow.kept HN3.out hgk (.inr (fun e => nqr (by simpa [Value.ownBlock] using e))))
          have HRK := Lib.hid hrk
          have HK4 := Lib.hid (HK2.out.trans (Keep3.of_grown hgk (.inr (.inr rfl))))
          clear hrk hgk
          gi_wp2
          refine wpIn_region_chain (by kernel_rfl) (by kernel_rfl) [10, 13, 14, 18] (by kernel_rfl) (by decide) (by decide) (fun j v => v = [(.pointer (some ⟨bb, 0, none⟩) : Value), .pointer (some ⟨bb, 0, none⟩), .pointer (some ⟨bb, 0, none⟩), .pointer (some ⟨bb, 0, none⟩), .pointer (some ⟨bb, 0, none⟩), .slice (some ⟨q, 0, none⟩) LN cap, .pointer (some ⟨wo.heap.size, 0, none⟩), .int .i64 kd, .pointer (some ⟨wo.heap.size, 1, none⟩), .string U, undef, .slice kA KN KN, .agg #[.int .i64 kd, .string U, .slice kA KN KN], undef, undef, .pointer (some ⟨bb, 0, none⟩), .pointer (some ⟨bb, 0, none⟩), .pointer (some ⟨bb, 0, none⟩), undef].getD j undef) (PPs bb q cap LN base wr XS [.int .i64 kd, .string U, .slice kA KN KN] U (.slice (some ⟨r, off', none⟩) (total - uu - KN) (total - uu - KN))) ?_ ?_ ?_ ?_ ?_
          · intro val
            exact (Below.refl _ _).drew
          · intro k val val' W hval hps
            rcases k with _ | _ | _ | _ | k
            · exact hps
            · exact ⟨hps.1, (hval 0 10 (by omega) rfl).symm.trans hps.2⟩
            · obtain ⟨h1, s, h2, h3⟩ := hps
              exact ⟨h1, s, (hval 1 13 (by omega) rfl).symm.trans h2, h3⟩
            · exact ⟨hps.1, (hval 2 14 (by omega) rfl).symm.trans hps.2.1, hps.2.2⟩
            · exact hps
          · intro i oo listed a' W val k ho hic haf hS hF hbk hlm hps
            have hii : i < 19 := (Array.getElem?_eq_some_iff.1 ho).1
            obtain rfl | rfl | rfl | rfl | rfl | rfl | rfl | rfl | rfl | rfl | rfl | rfl | rfl | rfl | rfl | rfl | rfl | rfl | rfl : i = 0 ∨ i = 1 ∨ i = 2 ∨ i = 3 ∨ i = 4 ∨ i = 5 ∨ i = 6 ∨ i = 7 ∨ i = 8 ∨ i = 9 ∨ i = 10 ∨ i = 11 ∨ i = 12 ∨ i = 13 ∨ i = 14 ∨ i = 15 ∨ i = 16 ∨ i = 17 ∨ i = 18 := by omega
            · cases ho
              have q0 : a'.tmps[0]? = some (.pointer (some ⟨bb, 0, none⟩)) := (hS.tmpBase 0 (by kernel_rfl)).trans rfl
              refine ⟨fun _ _ => trivial, _, _, ?_, .inl rfl, rfl⟩
              rw [Oper.semAt_plain _ _ _ (by intro c h; cases h)]
              simp [execOp, q0, go_sem]
            · cases ho
              have q0 : a'.tmps[0]? = some (.pointer (some ⟨bb, 0, none⟩)) := (hS.tmpBase 0 (by kernel_rfl)).trans rfl
              refine ⟨fun _ _ => trivial, _, _, ?_, .inl rfl, rfl⟩
              rw [Oper.semAt_plain _ _ _ (by intro c h; cases h)]
              simp [execOp, q0, go_sem]
            · cases ho
              have l1 : listed.getD 1 false = true := haf ⟨1, .data⟩ (Array.mem_of_getElem? (i := 0) rfl) rfl
              have q39 : a'.tmps[39]? = some (val 1) := hS.tmpSet 1 _ 39 rfl rfl (by simp) l1
              rw [show val 1 = .pointer (some ⟨bb, 0, none⟩) from hF 1 l1 (by decide)] at q39
              refine ⟨fun _ _ => trivial, _, _, ?_, .inl rfl, rfl⟩
              rw [Oper.semAt_plain _ _ _ (by intro c h; cases h)]
              simp [execOp, q39, go_sem]
            · cases ho
              have l2 : listed.getD 2 false = true := haf ⟨2, .data⟩ (Array.mem_of_getElem? (i := 0) rfl) rfl
              have q40 : a'.tmps[40]? = some (val 2) := hS.tmpSet 2 _ 40 rfl rfl (by simp) l2
              rw [show val 2 = .pointer (some ⟨bb, 0, none⟩) from hF 2 l2 (by decide)] at q40
              refine ⟨fun _ _ => trivial, _, _, ?_, .inl rfl, rfl⟩
              rw [Oper.semAt_plain _ _ _ (by intro c h; cases h)]
              simp [execOp, q40, go_sem]
            · cases ho
              have l3 : listed.getD 3 false = true := haf ⟨3, .data⟩ (Array.mem_of_getElem? (i := 0) rfl) rfl
              have q41 : a'.tmps[41]? = some (val 3) := hS.tmpSet 3 _ 41 rfl rfl (by simp) l3
              rw [show val 3 = .pointer (some ⟨bb, 0, none⟩) from hF 3 l3 (by decide)] at q41
              refine ⟨fun _ _ => trivial, _, _, ?_, .inl rfl, rfl⟩
              rw [Oper.semAt_plain _ _ _ (by intro c h; cases h)]
              simp [execOp, q41, go_sem]
            · cases ho
              have l4 : listed.getD 4 false = true := haf ⟨4, .data⟩ (Array.mem_of_getElem? (i := 0) rfl) rfl
              have q42 : a'.tmps[42]? = some (val 4) := hS.tmpSet 4 _ 42 rfl rfl (by simp) l4
              rw [show val 4 = .pointer (some ⟨bb, 0, none⟩) from hF 4 l4 (by decide)] at q42
              have hk2 : k ≤ 2 := hbk 2 14 rfl (by kernel_rfl)
              have hbl : Below wr.heap.size wr W := by
                obtain rfl | rfl | rfl : k = 0 ∨ k = 1 ∨ k = 2 := by omega
                · exact hps
                · exact hps.1
                · exact hps.1
              have k1 := (HRB4.out.below hbl HRB4.out.lt).cell 0
              simp only [List.getElem?_toArray, List.getElem?_cons_zero] at k1
              refine ⟨fun _ _ => trivial, _, _, ?_, .inl rfl, rfl⟩
              rw [Oper.semAt_plain _ _ _ (by intro c h; cases h)]
              simp [execOp, q42, k1, go_sem]
            · cases ho
              have q7 : a'.tmps[7]? = some (.pointer (some ⟨wo.heap.size, 0, none⟩)) := (hS.tmpBase 7 (by kernel_rfl)).trans rfl
              refine ⟨fun _ _ => trivial, _, _, ?_, .inl rfl, rfl⟩
              rw [Oper.semAt_plain _ _ _ (by intro c h; cases h)]
              simp [execOp, q7, go_sem]
            · cases ho
              have l6 : listed.getD 6 false = true := haf ⟨6, .data⟩ (Array.mem_of_getElem? (i := 0) rfl) rfl
              have q44 : a'.tmps[44]? = some (val 6) := hS.tmpSet 6 _ 44 rfl rfl (by simp) l6
              rw [show val 6 = .pointer (some ⟨wo.heap.size, 0, none⟩) from hF 6 l6 (by decide)] at q44
              have hk2 : k ≤ 1 := hbk 1 13 rfl (by kernel_rfl)
              have hbl : Below wr.heap.size wr W := by
                obtain rfl | rfl : k = 0 ∨ k = 1 := by omega
                · exact hps
                · exact hps.1
              have k1 := (node_cells (HRX4.out.below hbl HRX4.out.lt)).1
              refine ⟨fun _ _ => trivial, _, _, ?_, .inl rfl, rfl⟩
              rw [Oper.semAt_plain _ _ _ (by intro c h; cases h)]
              simp [execOp, q44, k1, go_sem]
            · cases ho
              have q7 : a'.tmps[7]? = some (.pointer (some ⟨wo.heap.size, 0, none⟩)) := (hS.tmpBase 7 (by kernel_rfl)).trans rfl
              refine ⟨fun _ _ => trivial, _, _, ?_, .inl rfl, rfl⟩
              rw [Oper.semAt_plain _ _ _ (by intro c h; cases h)]
              simp [execOp, q7, go_sem]
            · cases ho
              have l8 : listed.getD 8 false = true := haf ⟨8, .data⟩ (Array.mem_of_getElem? (i := 0) rfl) rfl
              have q46 : a'.tmps[46]? = some (val 8) := hS.tmpSet 8 _ 46 rfl rfl (by simp) l8
              rw [show val 8 = .pointer (some ⟨wo.heap.size, 1, none⟩) from hF 8 l8 (by decide)] at q46
              have hk2 : k ≤ 0 := hbk 0 10 rfl (by kernel_rfl)
              have hbl : Below wr.heap.size wr W := by
                obtain rfl : k = 0 := by omega
                exact hps
              have k1 := (node_cells (HRX4.out.below hbl HRX4.out.lt)).2.1
              refine ⟨fun _ _ => trivial, _, _, ?_, .inl rfl, rfl⟩
              rw [Oper.semAt_plain _ _ _ (by intro c h; cases h)]
              simp [execOp, q46, k1, go_sem]
            · exact absurd (by decide) hic
            · cases ho
              have q8 : a'.tmps[8]? = some (.slice kA KN KN) := (hS.tmpBase 8 (by kernel_rfl)).trans rfl
              refine ⟨fun _ _ => trivial, _, _, ?_, .inl rfl, rfl⟩
              rw [Oper.semAt_plain _ _ _ (by intro c h; cases h)]
              simp [execOp, q8, go_sem]
            · cases ho
              have l7 : listed.getD 7 false = true := haf ⟨7, .data⟩ (Array.mem_of_getElem? (i := 0) rfl) rfl
              have q45 : a'.tmps[45]? = some (val 7) := hS.tmpSet 7 _ 45 rfl rfl (by simp) l7
              rw [show val 7 = .int .i64 kd from hF 7 l7 (by decide)] at q45
              have l10 : listed.getD 10 false = true := haf ⟨10, .data⟩ (Array.mem_of_getElem? (i := 1) rfl) rfl
              have q48 : a'.tmps[48]? = some (val 10) := hS.tmpSet 10 _ 48 rfl rfl (by simp) l10
              have l11 : listed.getD 11 false = true := haf ⟨11, .data⟩ (Array.mem_of_getElem? (i := 2) rfl) rfl
              have q49 : a'.tmps[49]? = some (val 11) := hS.tmpSet 11 _ 49 rfl rfl (by simp) l11
              rw [show val 11 = .slice kA KN KN from hF 11 l11 (by decide)] at q49
              have hk0 : 0 < k := hlm 0 10 rfl l10
              have hk1 : k ≤ 1 := hbk 1 13 rfl (by kernel_rfl)
              obtain rfl : k = 1 := by omega
              rw [hps.2] at q48
              refine ⟨fun _ _ => trivial, _, _, ?_, .inl rfl, rfl⟩
              rw [Oper.semAt_plain _ _ _ (by intro c h; cases h)]
              simp [execOp, q45, q48, q49, go_sem]
            · exact absurd (by decide) hic
            · exact absurd (by decide) hic
            · cases ho
              have l0 : listed.getD 0 false = true := haf ⟨0, .data⟩ (Array.mem_of_getElem? (i := 0) rfl) rfl
              have q38 : a'.tmps[38]? = some (val 0) := hS.tmpSet 0 _ 38 rfl rfl (by simp) l0
              rw [show val 0 = .pointer (some ⟨bb, 0, none⟩) from hF 0 l0 (by decide)] at q38
              refine ⟨fun _ _ => trivial, _, _, ?_, .inl rfl, rfl⟩
              rw [Oper.semAt_plain _ _ _ (by intro c h; cases h)]
              simp [execOp, q38, go_sem]
            · cases ho
              have l15 : listed.getD 15 false = true := haf ⟨15, .data⟩ (Array.mem_of_getElem? (i := 0) rfl) rfl
              have q53 : a'.tmps[53]? = some (val 15) := hS.tmpSet 15 _ 53 rfl rfl (by simp) l15
              rw [show val 15 = .pointer (some ⟨bb, 0, none⟩) from hF 15 l15 (by decide)] at q53
              refine ⟨fun _ _ => trivial, _, _, ?_, .inl rfl, rfl⟩
              rw [Oper.semAt_plain _ _ _ (by intro c h; cases h)]
              simp [execOp, q53, go_sem]
            · cases ho
              have l16 : listed.getD 16 false = true := haf ⟨16, .data⟩ (Array.mem_of_getElem? (i := 0) rfl) rfl
              have q54 : a'.tmps[54]? = some (val 16) := hS.tmpSet 16 _ 54 rfl rfl (by simp) l16
              rw [show val 16 = .pointer (some ⟨bb, 0, none⟩) from hF 16 l16 (by decide)] at q54
              refine ⟨fun _ _ => trivial, _, _, ?_, .inl rfl, rfl⟩
              rw [Oper.semAt_plain _ _ _ (by intro c h; cases h)]
              simp [execOp, q54, go_sem]
            · exact absurd (by decide) hic
          · intro m i oo listed a' W val ho hmi haf hS hF hps
            have hmm : m < 4 := (List.getElem?_eq_some_iff.1 hmi).1
            obtain rfl | rfl | rfl | rfl : m = 0 ∨ m = 1 ∨ m = 2 ∨ m = 3 := by omega
            · cases hmi
              cases ho
              have l9 : listed.getD 9 false = true := haf ⟨9, .data⟩ (Array.mem_of_getElem? (i := 0) rfl) rfl
              have q47 : a'.tmps[47]? = some (val 9) := hS.tmpSet 9 _ 47 rfl rfl (by simp) l9
              rw [show val 9 = .string U from hF 9 l9 (by decide)] at q47
              refine op_callv 62 #[.string U] (fun _ _ => trivial) ?_ (by omega) ((callsIn_wide.2 (nclone_c U W (by omega))).mono ?_)
              · rw [Oper.semAt_plain _ _ _ (by intro c h; cases h)]
                simp [execOp, q47, go_sem]
              · rintro e w5 ⟨rfl, hb5⟩
                exact ⟨_, rfl, Below.trans hps (hb5.mono hps.size), rfl⟩
            · cases hmi
              cases ho
              have l12 : listed.getD 12 false = true := haf ⟨12, .data⟩ (Array.mem_of_getElem? (i := 0) rfl) rfl
              have q50 : a'.tmps[50]? = some (val 12) := hS.tmpSet 12 _ 50 rfl rfl (by simp) l12
              rw [show val 12 = .agg #[.int .i64 kd, .string U, .slice kA KN KN] from hF 12 l12 (by decide)] at q50
              refine op_valv (.slice (some ⟨W.heap.size, 0, none⟩) 1 1) (W.alloc (.cells #[.int .i64 kd, .string U, .slice kA KN KN] 42)) (fun _ _ => trivial) ?_ ⟨hps.1.alloc hps.1.size _, W.heap.size, rfl, Row.new _ _ _⟩
              rw [Oper.semAt_plain _ _ _ (by intro c h; cases h)]
              simp [execOp, q50, go_sem]
            · cases hmi
              cases ho
              have l5 : listed.getD 5 false = true := haf ⟨5, .data⟩ (Array.mem_of_getElem? (i := 0) rfl) rfl
              have q43 : a'.tmps[43]? = some (val 5) := hS.tmpSet 5 _ 43 rfl rfl (by simp) l5
              rw [show val 5 = .slice (some ⟨q, 0, none⟩) LN cap from hF 5 l5 (by decide)] at q43
              have l13 : listed.getD 13 false = true := haf ⟨13, .data⟩ (Array.mem_of_getElem? (i := 1) rfl) rfl
              have q51 : a'.tmps[51]? = some (val 13) := hS.tmpSet 13 _ 51 rfl rfl (by simp) l13
              obtain ⟨hbl, s, hs, hrs⟩ := hps
              rw [hs] at q51
              obtain ⟨w5, hrun, r1, r2⟩ := run_append_fits (P := Tryd.prog) (w := W) base 22 22 42 i0 3 Tryd.underlying22 hi hz1 q LN cap XS (own_kept HND4.out hbl) ⟨s, 0, none⟩ 1 1 [.int .i64 kd, .string U, .slice kA KN KN] rfl (World.news_of_block hrs) (by simp [Value.oneCell']) (by omega)
              refine op_valv (.slice (some ⟨q, 0, none⟩) (LN + 1) cap) w5 (fun _ _ => trivial) ?_ ⟨World.grownBy.trans (grown_below hbl _) r2, rfl, r1⟩
              have e43 : a'.eval (.tmp 43) = .slice (some ⟨q, 0, none⟩) LN cap := by simp [q43, go_sem]
              have e51 : a'.eval (.tmp 51) = .slice (some ⟨s, 0, none⟩) 1 1 := by simp [q51, go_sem]
              rw [Oper.semAt_plain _ _ _ (by intro c h; cases h)]
              simp [execOp, resolve, invoke, builtin, e43, e51, hrun, Result.andThen]
            · cases hmi
              cases ho
              have l17 : listed.getD 17 false = true := haf ⟨17, .data⟩ (Array.mem_of_getElem? (i := 0) rfl) rfl
              have q55 : a'.tmps[55]? = some (val 17) := hS.tmpSet 17 _ 55 rfl rfl (by simp) l17
              rw [show val 17 = .pointer (some ⟨bb, 0, none⟩) from hF 17 l17 (by decide)] at q55
              have l14 : listed.getD 14 false = true := haf ⟨14, .data⟩ (Array.mem_of_getElem? (i := 1) rfl) rfl
              have q52 : a'.tmps[52]? = some (val 14) := hS.tmpSet 14 _ 52 rfl rfl (by simp) l14
              obtain ⟨hg, hv, ho⟩ := hps
              rw [hv] at q52
              have rb := row_grown HRB4.out hg (fun e => by injection e with e; exact nbq e.symm)
              have k1 := rb.cell 0
              have k2 := rb.frozen 0
              simp only [List.getElem?_toArray, List.getElem?_cons_zero] at k1
              refine op_skipv (W.setCell ⟨bb, 0, none⟩ (.slice (some ⟨q, 0, none⟩) (LN + 1) cap)) (fun _ _ => trivial) ?_ ⟨⟨W, hg, grown_set _ _ _ _⟩, World.ownsRow.kept ho (grown_set _ _ _ _) (.inr (fun e => nbq (by simpa [Value.ownBlock] using e.symm))), rb.set 0 _⟩
              rw [Oper.semAt_plain _ _ _ (by intro c h; cases h)]
              simp [execOp, q55, q52, k1, k2, go_sem]
          · intro W5 val hps hF
            obtain ⟨⟨X, hgX, hgX2⟩, hown, hrb⟩ := hps
            have HOWN := Lib.hid hown
            have HRB := Lib.hid hrb
            have HRR5 := Lib.hid (row_grown (row_grown HRK.out hgX (fun e => by injection e with e; exact nqr e)) hgX2 (fun e => by injection e with e; exact nbr e))
            have HKK5 := Lib.hid ((HK4.out.trans (Keep3.of_grown hgX (.inr (.inl rfl)))).trans (Keep3.of_grown hgX2 (.inl rfl)))
            simp only [finAct, List.getElem?_toArray, List.getElem?_cons_zero, List.getElem?_cons_succ, Act.put, List.setIfInBounds_toArray, List.set_cons_zero, List.set_cons_succ, List.size_toArray, List.length_cons, List.length_nil, Nat.reduceAdd]
            clear hown hrb hgX hgX2 hF
            gi_wp2
            go_roundw
            case rel =>
              have hx := HX.out
              have hKN := HKN.out
              have htk : (T.take (j + 1)).map (movN more) = (T.take j).map (movN more) ++ [movN more x] := by
                rw [List.take_add_one, hx, List.map_append]
                rfl
              have hsum : u + (allKids (T.take (j + 1))).length = uu + KN := by
                rw [kids_take2 hx, List.length_append, HUU.out, hKN]
                omega
              have hMs : (L ++ (M ++ [(movN more x, (.slice kA KN KN : Value))])).length = LN + 1 := by
                rw [← List.append_assoc, List.length_append, ← HLNN.out]
                rfl
              have hcN : cellsN (L ++ (M ++ [(movN more x, (.slice kA KN KN : Value))])) = XS ++ [.int .i64 kd, .string U, .slice kA KN KN] := by
                rw [← List.append_assoc, cellsN_snoc, ← HXS.out]
                show _ ++ nodC _ = _
                unfold nodC
                rw [HKD.out, HU.out]
                rfl
              refine ⟨j + 1, M ++ [(movN more x, .slice kA KN KN)], by omega, by go_num, by rw [List.map_append, HM.out, htk]; rfl, ⟨⟨off', ?_, fun h => ?_⟩, ?_, ⟨rowK cs off KN x.kids more KN, HRR5.out, ?_, fun p hp => ?_⟩, hbase, hrbase, by omega, hfew⟩, HKK5.out⟩
              · rw [hMs, hsum, show total - (uu + KN) = total - uu - KN by omega]
                exact HRB.out
              · rw [hsum] at h ⊢
                have h1 := HO'.out (by omega)
                have h2 := HOFF.out (by omega)
                omega
              · rw [hMs, hcN]
                exact HOWN.out
              · by_cases h0 : KN = 0
                · subst h0
                  rw [rowK_none HKN.out.symm, HCS.out]
                · rw [rowK_size HKN.out.symm (HO2.out h0), HCS.out]
              · rw [hsum]
                rw [← List.append_assoc] at hp
                rcases List.mem_append.1 hp with hp | hp
                · rcases HKI.out p hp with h | ⟨o2, h1, h2, h3, h4⟩
                  · exact .inl h
                  · refine .inr ⟨o2, h1, h2, by omega, fun jj a hja => ?_⟩
                    have hjl := (List.getElem?_eq_some_iff.1 hja).1
                    by_cases h0 : KN = 0
                    · subst h0
                      rw [rowK_none HKN.out.symm]
                      exact h4 jj a hja
                    · rw [rowK_lt (HO2.out h0) (by rw [HOFF.out (by omega)]; omega)]
                      exact h4 jj a hja
                · obtain rfl := List.mem_singleton.1 hp
                  have hlm : (movN more x).kids.length = KN := by rw [show (movN more x).kids = x.kids.map (· + more) from rfl, List.length_map, ← hKN]
                  by_cases h0 : KN = 0
                  · refine .inl ⟨List.length_eq_zero_iff.1 (by rw [hlm, h0]), ?_⟩
                    show Value.slice kA KN KN = _
                    rw [HZ.out h0, h0]
                  · refine .inr ⟨off, ?_, by rw [hlm]; omega, by rw [hlm, HOFF.out (by omega)]; exact Nat.le_refl _, fun jj a hja => ?_⟩
                    · show Value.slice kA KN KN = _
                      rw [hlm, HP.out (by omega)]
                    · have hjl := (List.getElem?_eq_some_iff.1 hja).1
                      rw [hlm] at hjl
                      rw [show (movN more x).kids = x.kids.map (· + more) from rfl, List.getElem?_map] at hja
                      obtain ⟨b, hb⟩ : ∃ b, x.kids[jj]? = some b := ⟨_, List.getElem?_eq_getElem (by rw [← hKN]; exact hjl)⟩
                      rw [hb] at hja
                      injection hja with hja
                      subst hja
                      rw [rowK_mid HKN.out.symm (HO2.out h0) hjl hb, if_pos hjl]
            case measure => simp [intOf]; omega
    · obtain rfl : j = n := by omega
      have HFIN : Hid (M.map (·.1) = T.map (movN more) ∧ BD wo base bb q r cap total (L ++ M) (u + (allKids T).length)) := Lib.hid (by
        have e : T.take j = T := by rw [HN.out, List.take_length]
        rw [e] at hM hBD
        exact ⟨hM, hBD⟩)
      clear hM hBD hK3
      gi_wp2
      go_end0
      exact ⟨⟨_, rfl⟩, HK3.out, M, HFIN.out.1, HFIN.out.2⟩
end Go.Proofs.YtbegplfijjbpcaaDoor.No
