/- The plain Dy of stage 11. -/
import Derived.Test.YthlkgfplffdiaaaGreatDoorArRfM
import Derived.Deep.DeepCutAuto
namespace Go.Proofs.YthlkgfplffdiaaaGreatDoor.Ar
open Go Go.RowKit Go.Shelf
attribute [local go_sem] Oper.semAt_some

section
variable {F : Fence} {n : Nat} {P : Program} {ops : Array Oper} {Q : Exit → Act → World → Prop}
/-- A region that draws its order: what each operation comes to is known; calls make memory. -/
theorem wpIn_region_seenG {id : Nat} {a : Act} {w : World} (hm : P.follows .mixedOrders = true) (hp : guardOps ops = true) (Ph : Nat → Value → World → Prop) (hPh : ∀ i v W W', Below W.heap.size W W' → Ph i v W → Ph i v W')
    (hstep : ∀ (i : Nat) (o : Oper) (listed : Array Bool) (a' : Act) (W : World) (val : Nat → Value), ops[i]? = some o → i < ops.size → (∀ e ∈ o.after, Region.binds .any e = true → listed.getD e.on false = true) → Shape ops a val listed a' → Below w.heap.size w W → (∀ j, listed.getD j false = true → Ph j (val j) W) →
      wpOpIn F n P ops Q i (fun a'' W'' => ∃ v, a'' = a'.put o.dst v ∧ Below W.heap.size W W'' ∧ Ph i v W'') a' W)
    (hend : ∀ (W : World) (val : Nat → Value), Below w.heap.size w W → (∀ j, j < ops.size → Ph j (val j) W) → Q .normal (finAct ops a val ops.size) W) : (Code.region id ops true).wpIn F n P Q a w := by
  refine wpIn_region_valsG hm hp (fun listed val W => listed.size = ops.size ∧ Below w.heap.size w W ∧ (∀ j, listed.getD j false = true → Ph j (val j) W)) (fun val => ⟨by simp, (Below.refl _ _).drew, fun j hl => absurd hl (by rw [rep_getD]; decide)⟩) (fun i o listed a' W val ho hsz hu haf hS hJ => ?_) (fun listed W val hl hJ => ?_)
  · obtain ⟨hs, hB, hF⟩ := hJ
    have hi := (Array.getElem?_eq_some_iff.1 ho).1
    have hset : ∀ j, (listed.setIfInBounds i true).getD j false = if i = j then true else listed.getD j false := fun j => lset hs hi
    refine wpOpIn_mono' (fun a'' W'' h' => ?_) (hstep i o listed a' W val ho hi haf hS hB hF)
    obtain ⟨v, rfl, hb, hv⟩ := h'
    refine ⟨v, rfl, by simp [hs], hB.trans (hb.mono hB.size), fun j hlj => ?_⟩
    rw [hset] at hlj
    by_cases e : i = j
    · subst e
      simp only [if_pos]
      exact hv
    · rw [if_neg e] at hlj
      simp only [if_neg (Ne.symm e)]
      exact hPh _ _ _ _ hb (hF j hlj)
  · obtain ⟨_, hB, hF⟩ := hJ
    exact hend W val hB (fun j hj => hF j (hl j hj))
end

theorem list_ne (x y : List UInt8) : (x != y) = !(x == y) := rfl
set_option maxRecDepth 100000 in
set_option maxHeartbeats 16000000 in
theorem pdy_c (g : ByteArray) (a b : Ary) (s t : Value) (w : World) (hs : KL w s a.n) (ht : KL w t b.n) (hi : InL a.n) (hj : InL b.n) : Calls Tryz.prog 14 #[.string g, aryV a s, aryV b t] w fun e w' => Tells (dyZ g a b) (dyE g a b) w e w' := by
  obtain ⟨c, hc⟩ : ∃ c, c = dyE g a b := ⟨_, rfl⟩
  obtain ⟨Z, hZ⟩ : ∃ Z, Z = dyZ g a b := ⟨_, rfl⟩
  rw [← hc, ← hZ]
  obtain ⟨h, hh⟩ : ∃ h : Int → Int → Int × Int, h = fnA g a b := ⟨_, rfl⟩
  obtain ⟨P, hP⟩ : ∃ P, P = pairsA a b := ⟨_, rfl⟩
  obtain ⟨n, hn⟩ : ∃ n, n = lenP a b := ⟨_, rfl⟩
  obtain ⟨DF, hDF⟩ : ∃ d, d = differA a b := ⟨_, rfl⟩
  obtain ⟨DM, hDM⟩ : ∃ d, d = (!takesA g && (hasR a || hasR b)) := ⟨_, rfl⟩
  have bad : ∀ v, dyE g a b = v → v ≠ 0 → c = v ∧ Z = ⟨false, false, []⟩ := fun v e hv => by
    rw [hc, hZ, dyZ_bad (by rw [e]; exact hv), e]
    exact ⟨rfl, rfl⟩
  have H1 : Hid (rightA a = false → c = 114 ∧ Z = ⟨false, false, []⟩) := Lib.hid (fun hr => bad 114 (by unfold dyE; rw [hr]; rfl) (by decide))
  have H2 : Hid (rightA b = false → c = 114 ∧ Z = ⟨false, false, []⟩) := Lib.hid (fun hr => bad 114 (by unfold dyE; rw [hr, Bool.and_false]; rfl) (by decide))
  have H3 : Hid (rightA a = true → rightA b = true → decide (Nu.whichD g < 15) = false → c = 102 ∧ Z = ⟨false, false, []⟩) := Lib.hid (fun h1 h2 h3 => bad 102 (by unfold dyE; rw [h1, h2, h3]; rfl) (by decide))
  have H4 : Hid (rightA a = true → rightA b = true → decide (Nu.whichD g < 15) = true → DF = true → c = 110 ∧ Z = ⟨false, false, []⟩) := Lib.hid (fun h1 h2 h3 h4 => bad 110 (by unfold dyE; rw [h1, h2, h3, ← hDF, h4]; rfl) (by decide))
  have H5 : Hid (rightA a = true → rightA b = true → decide (Nu.whichD g < 15) = true → DF = false → DM = true → c = 102 ∧ Z = ⟨false, false, []⟩) := Lib.hid (fun h1 h2 h3 h4 h5 => bad 102 (by unfold dyE; rw [h1, h2, h3, ← hDF, h4, ← hDM, h5]; rfl) (by decide))
  have H6 : Hid (rightA a = true → rightA b = true → decide (Nu.whichD g < 15) = true → DF = false → DM = false → c = thrE h P ∧ (thrE h P = 0 → Z = ⟨a.list || b.list, false, thrN h P⟩) ∧ (thrE h P ≠ 0 → Z = ⟨false, false, []⟩) ∧ P.length = n ∧ n ≤ 200 ∧ ∀ k, k < n → P[k]? = some (itemA a k, itemA b k) ∧ (if a.list then k < a.n.length else 0 < a.n.length) ∧ (if b.list then k < b.n.length else 0 < b.n.length)) := Lib.hid (fun h1 h2 h3 h4 h5 => by
    have e : dyE g a b = thrE h P := by unfold dyE; rw [h1, h2, h3, ← hDF, h4, ← hDM, h5, hP, hh]; rfl
    refine ⟨by rw [hc, e], fun h0 => ?_, fun h0 => ?_, by rw [hP, pairs_len, hn], by rw [hn]; exact lenP_le h1 h2, fun k hk => ?_⟩
    · rw [hZ]; unfold dyZ dyL; rw [if_pos (by rw [e]; exact h0), hP, hh]
    · rw [hZ]; exact dyZ_bad (by rw [e]; exact h0)
    · rw [hn] at hk
      rw [hP]
      refine ⟨pairs_at hk, ?_⟩
      have r1 := (right_cnt h1).2
      have r2 := (right_cnt h2).2
      rw [hDF] at h4
      unfold lenP at hk
      unfold differA at h4
      cases ea : a.list <;> cases eb : b.list <;> simp [ea, eb] at * <;> omega)
  have HIA := Lib.hid (fun (W : World) (s : Value) (k : Nat) (hk : KL W s a.n) (hq : if a.list then k < a.n.length else 0 < a.n.length) => ritem_c a k s W hk hq)
  have HIB := Lib.hid (fun (W : World) (s : Value) (k : Nat) (hk : KL W s b.n) (hq : if b.list then k < b.n.length else 0 < b.n.length) => ritem_c b k s W hk hq)
  have HON : Hid (∀ x y, Nu.In x → Nu.In y → ∀ W, Calls Tryz.prog 28 #[.string g, .int .i64 x, .int .i64 y, .bool (a.runes == b.runes)] W fun e w' => e = .returned (Nu.numV (h x y)) ∧ Below W.heap.size W w') := Lib.hid (fun x y hx hy W => by
    have hr := rone_c g x y hx hy (a.runes == b.runes) W
    rw [hh]
    unfold fnA
    rw [show (if (a.runes == b.runes) = true then Nu.dyN (Nu.whichD g) x y else Nu.dyN (Nu.whichD g) 0 1) = (if a.runes = b.runes then Nu.dyN (Nu.whichD g) x y else Nu.dyN (Nu.whichD g) 0 1) from by cases a.runes <;> cases b.runes <;> rfl] at hr
    exact hr)
  have HII := Lib.hid (fun k (hk : if a.list then k < a.n.length else 0 < a.n.length) => hi _ (item_mem hk))
  have HIJ := Lib.hid (fun k (hk : if b.list then k < b.n.length else 0 < b.n.length) => hj _ (item_mem hk))
  have HID := Lib.hid (fun W => Nu.rIsDy_c g W)
  have HRA := Lib.hid (fun W s (hk : KL W s a.n) => rright_c a s W hk)
  have HRB := Lib.hid (fun W s (hk : KL W s b.n) => rright_c b s W hk)
  obtain ⟨ra, hra⟩ : ∃ r, r = rightA a := ⟨_, rfl⟩
  obtain ⟨rb, hrb⟩ : ∃ r, r = rightA b := ⟨_, rfl⟩
  rw [← hra] at HRA H1 H3 H4 H5 H6
  rw [← hrb] at HRB H2 H3 H4 H5 H6
  obtain ⟨tx, htx⟩ : ∃ x, (g.toList == [61]) = x := ⟨_, rfl⟩
  obtain ⟨ty, hty⟩ : ∃ y, (g.toList == [226, 137, 160]) = y := ⟨_, rfl⟩
  have HT : takesA g = (tx || ty) := by rw [takesA, htx, hty]
  rw [HT] at hDM
  clear hc hZ hh hP hi hj bad hra hrb HT
  obtain ⟨aL, aR, aN⟩ := a
  obtain ⟨bL, bR, bN⟩ := b
  obtain ⟨sa, sc, rfl, h1, h2⟩ := hs.form
  obtain ⟨ta, tc, rfl, h3, h4⟩ := ht.form
  unfold maxLen at h2 h4
  dsimp only [aryV] at *
  have HK := Lib.hid hs
  have HL := Lib.hid ht
  obtain ⟨na, hna⟩ : ∃ n, n = aN.length := ⟨_, rfl⟩
  obtain ⟨nb, hnb⟩ : ∃ n, n = bN.length := ⟨_, rfl⟩
  rw [← hna] at h1 HK ⊢
  rw [← hnb] at h3 HL ⊢
  have HDF : Hid (DF = (aL && bL && !((na : Int) == (nb : Int)))) := Lib.hid (by
    rw [hDF]
    unfold differA
    dsimp only
    rw [hna, hnb]
    congr 1
    rw [Bool.eq_iff_iff]
    simp
    omega)
  have HDM : Hid (DM = (!(tx || ty) && (aR && decide ((0 : Int) < (na : Int)) || bR && decide ((0 : Int) < (nb : Int))))) := Lib.hid (by
    rw [hDM]
    unfold hasR
    dsimp only
    rw [hna, hnb]
    congr 2
    · congr 1; rw [decide_eq_decide]; omega
    · congr 1; rw [decide_eq_decide]; omega)
  have HNN : Hid (n = if aL then na else nb) := Lib.hid (by rw [hn, hna, hnb]; rfl)
  have HTX := Lib.hid htx
  have HTY := Lib.hid hty
  have HHS := Lib.hid h1
  clear hs ht hDF hDM hn hna hnb htx hty
  obtain ⟨LL, hLL⟩ : ∃ l, l = (aL || bL) := ⟨_, rfl⟩
  rw [← hLL] at H6
  have HLL := Lib.hid hLL
  clear hLL
  obtain ⟨u0, hu0⟩ : ∃ u0, u0 = ((w.alloc (.cells #[.bool aL, .bool aR, .slice sa na sc] 24)).alloc (.cells #[.bool bL, .bool bR, .slice ta nb tc] 24)).alloc (.cells #[.bool false, .bool false, .slice none 0 0] 24) := ⟨_, rfl⟩
  have hb0 : Below w.heap.size w u0 := by rw [hu0]; exact (((Below.refl _ w).alloc (Nat.le_refl _) _).alloc (by simp) _).alloc (by simp; omega) _
  have HA0 : Hid (Row u0 w.heap.size 24 #[.bool aL, .bool aR, .slice sa na sc]) := Lib.hid (by rw [hu0]; exact ((Row.new _ _ _).alloc _).alloc _)
  have HX0 : Hid (Row u0 (w.heap.size + 1) 24 #[.bool bL, .bool bR, .slice ta nb tc]) := Lib.hid (by rw [hu0]; exact (Row.at _ _ _ _ (by simp)).alloc _)
  have HR0 : Hid (Row u0 (w.heap.size + 2) 24 #[.bool false, .bool false, .slice none 0 0]) := Lib.hid (by rw [hu0]; exact Row.at _ _ _ _ (by simp))
  have HS0 : Hid (w.heap.size + 3 ≤ u0.heap.size) := Lib.hid (by rw [hu0]; simp)
  have HCM := Lib.hid (HRA.out u0 (.slice sa na sc) (HK.out.below hb0))
  have HB0 := Lib.hid hb0
  have HU0 := Lib.hid hu0
  obtain ⟨x0, x1, x2, -, -, -⟩ := row3 HA0.out
  rw [hu0] at x0 x1 x2
  clear hb0 hu0
  go_enter Tryz.func14, Tryz.ntmps14
  go_wp2_with fail
  rw [← HU0.out]
  refine HCM.out.mono ?_
  rintro e w1 ⟨rfl, hb⟩
  clear x0 x1 x2 HU0
  have HA1 := Lib.hid (HA0.out.below hb HA0.out.lt)
  have HX1 := Lib.hid (HX0.out.below hb HX0.out.lt)
  have HR1 := Lib.hid (HR0.out.below hb HR0.out.lt)
  have HB1 := Lib.hid (HB0.out.trans (hb.mono HB0.out.size))
  have HS1 := Lib.hid (Nat.le_trans HS0.out hb.size)
  clear hb
  cases ra with
  | false =>
    obtain ⟨rfl, rfl⟩ := H1.out rfl
    clear H1 H2 H3 H4 H5 H6
    obtain ⟨m0, m1, m2, f0, f1, f2⟩ := row3 HR1.out
    go_wp2_with fail
    obtain ⟨v0, v1, v2, -, -, -⟩ := row3 (row_set3 HR1.out (.bool false) (.bool false) (.slice none 0 0))
    have hle : w.heap.size ≤ w.heap.size + 2 := by omega
    exact bodyPost_ret (v := .tuple #[.agg #[.bool false, .bool false, .slice none 0 0], .int .i64 114]) (by simp [results, Tryz.f14, go_sem, v0, v1, v2]) rfl ⟨none, 0, 0, rfl, IOwn.nil _ _, ((HB1.out.setCell (p := ⟨w.heap.size + 2, 0, none⟩) hle _).setCell (p := ⟨w.heap.size + 2, 1, none⟩) hle _).setCell (p := ⟨w.heap.size + 2, 2, none⟩) hle _⟩
  | true =>
    replace H3 := Lib.hid (H3.out rfl)
    replace H4 := Lib.hid (H4.out rfl)
    replace H5 := Lib.hid (H5.out rfl)
    replace H6 := Lib.hid (H6.out rfl)
    have HCM := Lib.hid (HRB.out w1 (.slice ta nb tc) (HL.out.below HB1.out))
    obtain ⟨x0, x1, x2, -, -, -⟩ := row3 HX1.out
    go_wp2_with fail
    refine HCM.out.mono ?_
    rintro e w2 ⟨rfl, hb⟩
    clear x0 x1 x2
    have HA2 := Lib.hid (HA1.out.below hb HA1.out.lt)
    have HX2 := Lib.hid (HX1.out.below hb HX1.out.lt)
    have HR2 := Lib.hid (HR1.out.below hb HR1.out.lt)
    have HB2 := Lib.hid (HB1.out.trans (hb.mono HB1.out.size))
    have HS2 := Lib.hid (Nat.le_trans HS1.out hb.size)
    clear hb
    cases rb with
    | false =>
      obtain ⟨rfl, rfl⟩ := H2.out rfl
      clear H1 H2 H3 H4 H5 H6
      obtain ⟨m0, m1, m2, f0, f1, f2⟩ := row3 HR2.out
      go_wp2_with fail
      obtain ⟨v0, v1, v2, -, -, -⟩ := row3 (row_set3 HR2.out (.bool false) (.bool false) (.slice none 0 0))
      have hle : w.heap.size ≤ w.heap.size + 2 := by omega
      exact bodyPost_ret (v := .tuple #[.agg #[.bool false, .bool false, .slice none 0 0], .int .i64 114]) (by simp [results, Tryz.f14, go_sem, v0, v1, v2]) rfl ⟨none, 0, 0, rfl, IOwn.nil _ _, ((HB2.out.setCell (p := ⟨w.heap.size + 2, 0, none⟩) hle _).setCell (p := ⟨w.heap.size + 2, 1, none⟩) hle _).setCell (p := ⟨w.heap.size + 2, 2, none⟩) hle _⟩
    | true =>
      replace H3 := Lib.hid (H3.out rfl)
      replace H4 := Lib.hid (H4.out rfl)
      replace H5 := Lib.hid (H5.out rfl)
      replace H6 := Lib.hid (H6.out rfl)
      have HCM := Lib.hid (HID.out w2)
      go_wp2_with fail
      refine HCM.out.mono ?_
      rintro e w3 ⟨rfl, hb⟩
      have HA3 := Lib.hid (HA2.out.below hb HA2.out.lt)
      have HX3 := Lib.hid (HX2.out.below hb HX2.out.lt)
      have HR3 := Lib.hid (HR2.out.below hb HR2.out.lt)
      have HB3 := Lib.hid (HB2.out.trans (hb.mono HB2.out.size))
      have HS3 := Lib.hid (Nat.le_trans HS2.out hb.size)
      clear hb
      rcases hd : decide (Nu.whichD g < 15) with _ | _
      · obtain ⟨rfl, rfl⟩ := H3.out hd
        clear H1 H2 H3 H4 H5 H6
        obtain ⟨m0, m1, m2, f0, f1, f2⟩ := row3 HR3.out
        go_wp2_with fail
        obtain ⟨v0, v1, v2, -, -, -⟩ := row3 (row_set3 HR3.out (.bool false) (.bool false) (.slice none 0 0))
        have hle : w.heap.size ≤ w.heap.size + 2 := by omega
        exact bodyPost_ret (v := .tuple #[.agg #[.bool false, .bool false, .slice none 0 0], .int .i64 102]) (by simp [results, Tryz.f14, go_sem, v0, v1, v2]) rfl ⟨none, 0, 0, rfl, IOwn.nil _ _, ((HB3.out.setCell (p := ⟨w.heap.size + 2, 0, none⟩) hle _).setCell (p := ⟨w.heap.size + 2, 1, none⟩) hle _).setCell (p := ⟨w.heap.size + 2, 2, none⟩) hle _⟩
      · have H4 := Lib.hid (H4.out hd)
        have H5 := Lib.hid (H5.out hd)
        have H6 := Lib.hid (H6.out hd)
        clear H1 H2 H3 hd HRA HRB HID
        go_upto_region 5 with fail
        go_cut [40] (fun v wx => v = .bool DF ∧ wx = w3)
        case first =>
          obtain ⟨x0, x1, x2, -, -, -⟩ := row3 HA3.out
          obtain ⟨y0, y1, y2, -, -, -⟩ := row3 HX3.out
          cases aL with
          | false =>
            go_wp2_with fail
            go_meet
            exact ⟨by rw [HDF.out]; rfl, rfl⟩
          | true =>
            cases bL with
            | false =>
              go_wp2_with fail
              go_meet
              exact ⟨by rw [HDF.out]; rfl, rfl⟩
            | true =>
              go_wp2_with fail
              go_meet
              exact ⟨by rw [HDF.out]; rfl, rfl⟩
        case rest =>
          obtain ⟨rfl, hw⟩ := hcut
          have hw := hw.symm
          subst hw
          clear HDF
          cases DF with
          | true =>
            obtain ⟨rfl, rfl⟩ := H4.out rfl
            clear H4 H5 H6
            obtain ⟨m0, m1, m2, f0, f1, f2⟩ := row3 HR3.out
            go_wp2_with fail
            obtain ⟨v0, v1, v2, -, -, -⟩ := row3 (row_set3 HR3.out (.bool false) (.bool false) (.slice none 0 0))
            have hle : w.heap.size ≤ w.heap.size + 2 := by omega
            exact bodyPost_ret (v := .tuple #[.agg #[.bool false, .bool false, .slice none 0 0], .int .i64 110]) (by simp [results, Tryz.f14, go_sem, v0, v1, v2]) rfl ⟨none, 0, 0, rfl, IOwn.nil _ _, ((HB3.out.setCell (p := ⟨w.heap.size + 2, 0, none⟩) hle _).setCell (p := ⟨w.heap.size + 2, 1, none⟩) hle _).setCell (p := ⟨w.heap.size + 2, 2, none⟩) hle _⟩
          | false =>
            have H5 := Lib.hid (H5.out rfl)
            have H6 := Lib.hid (H6.out rfl)
            clear H4
            go_upto_region 7 with fail
            go_cut [67] (fun v wx => v = .bool DM ∧ wx = w3)
            case first =>
              have hx := HTX.out
              have hy := HTY.out
              obtain ⟨x0, x1, x2, -, -, -⟩ := row3 HA3.out
              obtain ⟨y0, y1, y2, -, -, -⟩ := row3 HX3.out
              have hne := list_ne
              cases tx with
              | true =>
                go_wp2_with fail
                go_meet
                exact ⟨by rw [HDM.out]; simp [*], rfl⟩
              | false =>
                cases ty with
                | true =>
                  go_wp2_with fail
                  go_meet
                  exact ⟨by rw [HDM.out]; simp [*], rfl⟩
                | false =>
                  cases aR with
                  | false =>
                    cases bR with
                    | false =>
                      go_wp2_with fail
                      go_meet
                      exact ⟨by rw [HDM.out]; simp [*], rfl⟩
                    | true =>
                      go_wp2_with fail
                      go_meet
                      exact ⟨by rw [HDM.out]; simp [*], rfl⟩
                  | true =>
                    by_cases h0 : (0 : Int) < (na : Int)
                    · have h5 : 0 < na := by omega
                      go_wp2_with fail
                      go_meet
                      exact ⟨by rw [HDM.out]; simp [*], rfl⟩
                    · have h5 : ¬ 0 < na := by omega
                      cases bR with
                      | false =>
                        go_wp2_with fail
                        go_meet
                        exact ⟨by rw [HDM.out]; simp [*], rfl⟩
                      | true =>
                        go_wp2_with fail
                        go_meet
                        exact ⟨by rw [HDM.out]; simp [*], rfl⟩
            case rest =>
              obtain ⟨rfl, hw⟩ := hcut
              have hw := hw.symm
              subst hw
              clear HDM HTX HTY
              cases DM with
              | true =>
                obtain ⟨rfl, rfl⟩ := H5.out rfl
                clear H5 H6
                obtain ⟨m0, m1, m2, f0, f1, f2⟩ := row3 HR3.out
                go_wp2_with fail
                obtain ⟨v0, v1, v2, -, -, -⟩ := row3 (row_set3 HR3.out (.bool false) (.bool false) (.slice none 0 0))
                have hle : w.heap.size ≤ w.heap.size + 2 := by omega
                exact bodyPost_ret (v := .tuple #[.agg #[.bool false, .bool false, .slice none 0 0], .int .i64 102]) (by simp [results, Tryz.f14, go_sem, v0, v1, v2]) rfl ⟨none, 0, 0, rfl, IOwn.nil _ _, ((HB3.out.setCell (p := ⟨w.heap.size + 2, 0, none⟩) hle _).setCell (p := ⟨w.heap.size + 2, 1, none⟩) hle _).setCell (p := ⟨w.heap.size + 2, 2, none⟩) hle _⟩
              | false =>
                obtain ⟨hce, hz, hbad, hlen, h200, hat⟩ := H6.out rfl
                have HCE := Lib.hid hce
                have HZ := Lib.hid hz
                have HBAD := Lib.hid hbad
                have HLEN := Lib.hid hlen
                have HAT := Lib.hid hat
                have H200 := Lib.hid h200
                clear H5 H6 hce hz hbad hlen hat h200
                go_upto_region 9 with fail
                go_cut [8] (fun v wx => ∃ bo, v = .pointer (some ⟨bo, 0, none⟩) ∧ w.heap.size + 3 ≤ bo ∧ Below w3.heap.size w3 wx ∧ Row wx bo 24 #[.bool LL, .bool false, .slice none 0 0])
                case first =>
                  have hll := HLL.out
                  obtain ⟨x0, x1, x2, -, -, -⟩ := row3 HA3.out
                  obtain ⟨y0, y1, y2, -, -, -⟩ := row3 HX3.out
                  cases aL with
                  | false =>
                    skip
                    clear hll
                    go_wp2_with fail
                    go_meet
                    refine ⟨w3.heap.size, rfl, HS3.out, (Below.refl _ _).alloc (Nat.le_refl _) _, ?_⟩
                    rw [HLL.out]
                    exact Row.new _ _ _
                  | true =>
                    skip
                    clear hll
                    go_wp2_with fail
                    go_meet
                    refine ⟨w3.heap.size, rfl, HS3.out, (Below.refl _ _).alloc (Nat.le_refl _) _, ?_⟩
                    rw [HLL.out]
                    exact Row.new _ _ _
                case rest =>
                  obtain ⟨bo, rfl, hbo, hb, hro⟩ := hcut
                  obtain ⟨w4, hw4⟩ : ∃ W, W = wc := ⟨_, rfl⟩
                  subst hw4
                  have HO4 := Lib.hid hro
                  have HBO := Lib.hid hbo
                  clear hbo hro
                  have HA4 := Lib.hid (HA3.out.below hb HA3.out.lt)
                  have HX4 := Lib.hid (HX3.out.below hb HX3.out.lt)
                  have HR4 := Lib.hid (HR3.out.below hb HR3.out.lt)
                  have HB4 := Lib.hid (HB3.out.trans (hb.mono HB3.out.size))
                  have HS4 := Lib.hid (Nat.le_trans HS3.out hb.size)
                  clear hb
                  obtain ⟨y0, y1, y2, -, -, -⟩ := row3 HX4.out
                  obtain ⟨x0, x1, x2, -, -, -⟩ := row3 HA4.out
                  go_upto_if 80 with fail
                  go_cut [9] (fun v wx => v = .int .i64 n ∧ wx = w4)
                  case first =>
                    cases aL with
                    | false =>
                      go_wp2_with fail
                      go_meet
                      exact ⟨by rw [HNN.out]; rfl, rfl⟩
                    | true =>
                      go_wp2_with fail
                      go_meet
                      exact ⟨by rw [HNN.out]; rfl, rfl⟩
                  case rest =>
                    obtain ⟨rfl, hw⟩ := hcut
                    have hw := hw.symm
                    subst hw
                    clear x0 x1 x2 y0 y1 y2 HNN
                    go_wp2_with fail
                    go_loopw [10] (fun i wr => ∃ (k : Nat) (va : Option Addr) (vc : Nat), k ≤ n ∧ i = .int .i64 k ∧ Below w.heap.size w wr ∧ Row wr w.heap.size 24 #[.bool aL, .bool aR, .slice sa na sc] ∧ Row wr (w.heap.size + 1) 24 #[.bool bL, .bool bR, .slice ta nb tc] ∧ Row wr (w.heap.size + 2) 24 #[.bool false, .bool false, .slice none 0 0] ∧ Row wr bo 24 #[.bool LL, .bool false, .slice va k vc] ∧ IOwn wr w.heap.size (.slice va k vc) (thrN h (P.take k)) ∧ ∀ q ∈ P.take k, (h q.1 q.2).2 = 0) (fun i _ => n - (intOf i).toNat)
                    case atStart => exact ⟨0, none, 0, Nat.zero_le _, rfl, HB4.out, HA4.out, HX4.out, HR4.out, HO4.out, IOwn.nil _ _, fun q hq => by simp at hq⟩
                    case round =>
                      clear HA0 HA1 HA2 HA3 HA4 HX0 HX1 HX2 HX3 HX4 HR0 HR1 HR2 HR3 HR4 HO4 HB0 HB1 HB2 HB3 HB4 HS0 HS1 HS2 HS3 HS4
                      obtain ⟨k, va, vc, hk, rfl, hB, ra, rx, rr, ro, ho, hok⟩ := hrel
                      have h200 := H200.out
                      have HB := Lib.hid hB
                      have HA := Lib.hid ra
                      have HA2 := Lib.hid rx
                      have HR := Lib.hid rr
                      have HO := Lib.hid ro
                      have HOWN := Lib.hid ho
                      have HOK := Lib.hid hok
                      by_cases hlt : k < n
                      · obtain ⟨hpx, hka, hkb⟩ := HAT.out k hlt
                        have hxi := HII.out k hka
                        have hyi := HIJ.out k hkb
                        have HCX := Lib.hid (fun W (hbw : Below wr.heap.size wr W) => HIA.out W _ k ((HK.out.below hB).below hbw) hka)
                        have HCY := Lib.hid (fun W (hbw : Below wr.heap.size wr W) => HIB.out W _ k ((HL.out.below hB).below hbw) hkb)
                        obtain ⟨x, hx⟩ : ∃ x, x = itemA ⟨aL, aR, aN⟩ k := ⟨_, rfl⟩
                        obtain ⟨y, hy⟩ : ∃ x, x = itemA ⟨bL, bR, bN⟩ k := ⟨_, rfl⟩
                        rw [← hx] at hpx hxi HCX
                        rw [← hy] at hpx hyi HCY
                        rcases hp : h x y with ⟨q, er⟩
                        have hco := HON.out x y hxi hyi
                        rw [hp] at hco
                        unfold Nu.numV at hco
                        dsimp only at hco
                        have HCO := Lib.hid hco
                        have HPX := Lib.hid hpx
                        have hz : (0 : Int) ≤ (k : Int) := Int.natCast_nonneg _
                        have hzn : (k : Int) < (n : Int) := by omega
                        have HLA := Lib.hid (fun W (hbw : Below wr.heap.size wr W) => row3 (HA.out.below hbw HA.out.lt))
                        have HLX := Lib.hid (fun W (hbw : Below wr.heap.size wr W) => row3 (HA2.out.below hbw HA2.out.lt))
                        clear hB ra rx rr ro ho hok hpx hx hy hka hkb hxi hyi hco
                        go_wp2_with fail
                        refine (wpIn_wide (n := 9)).1 ?_
                        refine wpIn_region_seenG (by kernel_rfl) (by kernel_rfl) (fun i v _ => v = ([.string g, .agg #[.bool aL, .bool aR, .slice sa na sc], .int .i64 (k : Nat), .int .i64 x, .agg #[.bool bL, .bool bR, .slice ta nb tc], .int .i64 (k : Nat), .int .i64 y, .pointer (some ⟨w.heap.size, 1, none⟩), .bool aR, .pointer (some ⟨w.heap.size + 1, 1, none⟩), .bool bR, .bool (aR == bR), .tuple #[.int .i64 q, .int .i64 er], .tuple #[.int .i64 q, .int .i64 er], .int .i64 q, .int .i64 er, .int .i64 q, .int .i64 er].getD i undef)) (fun i v W W' _ h => h) ?_ ?_
                        · intro i oo listed a' W val ho hi haf hS hbw hF
                          have hi' : i < 18 := hi
                          obtain rfl | rfl | rfl | rfl | rfl | rfl | rfl | rfl | rfl | rfl | rfl | rfl | rfl | rfl | rfl | rfl | rfl | rfl : i = 0 ∨ i = 1 ∨ i = 2 ∨ i = 3 ∨ i = 4 ∨ i = 5 ∨ i = 6 ∨ i = 7 ∨ i = 8 ∨ i = 9 ∨ i = 10 ∨ i = 11 ∨ i = 12 ∨ i = 13 ∨ i = 14 ∨ i = 15 ∨ i = 16 ∨ i = 17 := by omega
                          · cases ho
                            refine opG_plain rfl rfl ?_
                            have q0 : a'.tmps[0]? = some (.string g) := (hS.tmpBase 0 (by kernel_rfl)).trans rfl
                            refine op_valv (.string g) W (fun _ _ => trivial) ?_ ⟨Below.refl _ _, rfl⟩
                            rw [Oper.semAt_plain _ _ _ (by intro c h; cases h)]
                            simp [execOp, q0, go_sem]
                          · cases ho
                            refine opG_plain rfl rfl ?_
                            have q4 : a'.tmps[4]? = some (.pointer (some ⟨w.heap.size, 0, none⟩)) := (hS.tmpBase 4 (by kernel_rfl)).trans rfl
                            obtain ⟨z0, z1, z2, -, -, -⟩ := HLA.out W hbw
                            refine op_valv (.agg #[.bool aL, .bool aR, .slice sa na sc]) W (fun _ _ => trivial) ?_ ⟨Below.refl _ _, rfl⟩
                            rw [Oper.semAt_plain _ _ _ (by intro c h; cases h)]
                            simp [execOp, q4, z0, z1, z2, go_sem]
                          · cases ho
                            refine opG_plain rfl rfl ?_
                            have q10 : a'.tmps[10]? = some (.int .i64 (k : Nat)) := (hS.tmpBase 10 (by kernel_rfl)).trans rfl
                            refine op_valv (.int .i64 (k : Nat)) W (fun _ _ => trivial) ?_ ⟨Below.refl _ _, rfl⟩
                            rw [Oper.semAt_plain _ _ _ (by intro c h; cases h)]
                            simp [execOp, q10, go_sem]
                          · cases ho
                            refine opG_plain rfl rfl ?_
                            have l1 : listed.getD 1 false = true := haf ⟨1, .data⟩ (Array.mem_of_getElem? (i := 0) rfl) rfl
                            have q91 : a'.tmps[91]? = some (val 1) := hS.tmpSet 1 _ 91 rfl rfl (by simp) l1
                            rw [show val 1 = .agg #[.bool aL, .bool aR, .slice sa na sc] from hF 1 l1] at q91
                            have l2 : listed.getD 2 false = true := haf ⟨2, .data⟩ (Array.mem_of_getElem? (i := 1) rfl) rfl
                            have q92 : a'.tmps[92]? = some (val 2) := hS.tmpSet 2 _ 92 rfl rfl (by simp) l2
                            rw [show val 2 = .int .i64 (k : Nat) from hF 2 l2] at q92
                            refine op_callv 29 #[.agg #[.bool aL, .bool aR, .slice sa na sc], .int .i64 (k : Nat)] (fun _ _ => trivial) ?_ (by omega) ((callsIn_wide.2 (HCX.out W hbw)).mono ?_)
                            · rw [Oper.semAt_plain _ _ _ (by intro c h; cases h)]
                              simp [execOp, q91, q92, go_sem]
                            · rintro e W2 ⟨rfl, hb⟩
                              exact ⟨_, rfl, hb, rfl⟩
                          · cases ho
                            refine opG_plain rfl rfl ?_
                            have q5 : a'.tmps[5]? = some (.pointer (some ⟨w.heap.size + 1, 0, none⟩)) := (hS.tmpBase 5 (by kernel_rfl)).trans rfl
                            obtain ⟨z0, z1, z2, -, -, -⟩ := HLX.out W hbw
                            refine op_valv (.agg #[.bool bL, .bool bR, .slice ta nb tc]) W (fun _ _ => trivial) ?_ ⟨Below.refl _ _, rfl⟩
                            rw [Oper.semAt_plain _ _ _ (by intro c h; cases h)]
                            simp [execOp, q5, z0, z1, z2, go_sem]
                          · cases ho
                            refine opG_plain rfl rfl ?_
                            have q10 : a'.tmps[10]? = some (.int .i64 (k : Nat)) := (hS.tmpBase 10 (by kernel_rfl)).trans rfl
                            refine op_valv (.int .i64 (k : Nat)) W (fun _ _ => trivial) ?_ ⟨Below.refl _ _, rfl⟩
                            rw [Oper.semAt_plain _ _ _ (by intro c h; cases h)]
                            simp [execOp, q10, go_sem]
                          · cases ho
                            refine opG_plain rfl rfl ?_
                            have l4 : listed.getD 4 false = true := haf ⟨4, .data⟩ (Array.mem_of_getElem? (i := 0) rfl) rfl
                            have q94 : a'.tmps[94]? = some (val 4) := hS.tmpSet 4 _ 94 rfl rfl (by simp) l4
                            rw [show val 4 = .agg #[.bool bL, .bool bR, .slice ta nb tc] from hF 4 l4] at q94
                            have l5 : listed.getD 5 false = true := haf ⟨5, .data⟩ (Array.mem_of_getElem? (i := 1) rfl) rfl
                            have q95 : a'.tmps[95]? = some (val 5) := hS.tmpSet 5 _ 95 rfl rfl (by simp) l5
                            rw [show val 5 = .int .i64 (k : Nat) from hF 5 l5] at q95
                            refine op_callv 29 #[.agg #[.bool bL, .bool bR, .slice ta nb tc], .int .i64 (k : Nat)] (fun _ _ => trivial) ?_ (by omega) ((callsIn_wide.2 (HCY.out W hbw)).mono ?_)
                            · rw [Oper.semAt_plain _ _ _ (by intro c h; cases h)]
                              simp [execOp, q94, q95, go_sem]
                            · rintro e W2 ⟨rfl, hb⟩
                              exact ⟨_, rfl, hb, rfl⟩
                          · cases ho
                            refine opG_plain rfl rfl ?_
                            have q4 : a'.tmps[4]? = some (.pointer (some ⟨w.heap.size, 0, none⟩)) := (hS.tmpBase 4 (by kernel_rfl)).trans rfl
                            refine op_valv (.pointer (some ⟨w.heap.size, 1, none⟩)) W (fun _ _ => trivial) ?_ ⟨Below.refl _ _, rfl⟩
                            rw [Oper.semAt_plain _ _ _ (by intro c h; cases h)]
                            simp [execOp, q4, go_sem]
                          · cases ho
                            refine opG_plain rfl rfl ?_
                            have l7 : listed.getD 7 false = true := haf ⟨7, .data⟩ (Array.mem_of_getElem? (i := 0) rfl) rfl
                            have q97 : a'.tmps[97]? = some (val 7) := hS.tmpSet 7 _ 97 rfl rfl (by simp) l7
                            rw [show val 7 = .pointer (some ⟨w.heap.size, 1, none⟩) from hF 7 l7] at q97
                            obtain ⟨z0, z1, z2, -, -, -⟩ := HLA.out W hbw
                            refine op_valv (.bool aR) W (fun _ _ => trivial) ?_ ⟨Below.refl _ _, rfl⟩
                            rw [Oper.semAt_plain _ _ _ (by intro c h; cases h)]
                            simp [execOp, q97, z1, go_sem]
                          · cases ho
                            refine opG_plain rfl rfl ?_
                            have q5 : a'.tmps[5]? = some (.pointer (some ⟨w.heap.size + 1, 0, none⟩)) := (hS.tmpBase 5 (by kernel_rfl)).trans rfl
                            refine op_valv (.pointer (some ⟨w.heap.size + 1, 1, none⟩)) W (fun _ _ => trivial) ?_ ⟨Below.refl _ _, rfl⟩
                            rw [Oper.semAt_plain _ _ _ (by intro c h; cases h)]
                            simp [execOp, q5, go_sem]
                          · cases ho
                            refine opG_plain rfl rfl ?_
                            have l9 : listed.getD 9 false = true := haf ⟨9, .data⟩ (Array.mem_of_getElem? (i := 0) rfl) rfl
                            have q99 : a'.tmps[99]? = some (val 9) := hS.tmpSet 9 _ 99 rfl rfl (by simp) l9
                            rw [show val 9 = .pointer (some ⟨w.heap.size + 1, 1, none⟩) from hF 9 l9] at q99
                            obtain ⟨z0, z1, z2, -, -, -⟩ := HLX.out W hbw
                            refine op_valv (.bool bR) W (fun _ _ => trivial) ?_ ⟨Below.refl _ _, rfl⟩
                            rw [Oper.semAt_plain _ _ _ (by intro c h; cases h)]
                            simp [execOp, q99, z1, go_sem]
                          · cases ho
                            refine opG_plain rfl rfl ?_
                            have l8 : listed.getD 8 false = true := haf ⟨8, .data⟩ (Array.mem_of_getElem? (i := 0) rfl) rfl
                            have q98 : a'.tmps[98]? = some (val 8) := hS.tmpSet 8 _ 98 rfl rfl (by simp) l8
                            rw [show val 8 = .bool aR from hF 8 l8] at q98
                            have l10 : listed.getD 10 false = true := haf ⟨10, .data⟩ (Array.mem_of_getElem? (i := 1) rfl) rfl
                            have q100 : a'.tmps[100]? = some (val 10) := hS.tmpSet 10 _ 100 rfl rfl (by simp) l10
                            rw [show val 10 = .bool bR from hF 10 l10] at q100
                            refine op_valv (.bool (aR == bR)) W (fun _ _ => trivial) ?_ ⟨Below.refl _ _, rfl⟩
                            rw [Oper.semAt_plain _ _ _ (by intro c h; cases h)]
                            simp [execOp, q98, q100, go_sem]
                          · cases ho
                            refine opG_plain rfl rfl ?_
                            have l0 : listed.getD 0 false = true := haf ⟨0, .data⟩ (Array.mem_of_getElem? (i := 0) rfl) rfl
                            have q90 : a'.tmps[90]? = some (val 0) := hS.tmpSet 0 _ 90 rfl rfl (by simp) l0
                            rw [show val 0 = .string g from hF 0 l0] at q90
                            have l3 : listed.getD 3 false = true := haf ⟨3, .data⟩ (Array.mem_of_getElem? (i := 1) rfl) rfl
                            have q93 : a'.tmps[93]? = some (val 3) := hS.tmpSet 3 _ 93 rfl rfl (by simp) l3
                            rw [show val 3 = .int .i64 x from hF 3 l3] at q93
                            have l6 : listed.getD 6 false = true := haf ⟨6, .data⟩ (Array.mem_of_getElem? (i := 2) rfl) rfl
                            have q96 : a'.tmps[96]? = some (val 6) := hS.tmpSet 6 _ 96 rfl rfl (by simp) l6
                            rw [show val 6 = .int .i64 y from hF 6 l6] at q96
                            have l11 : listed.getD 11 false = true := haf ⟨11, .data⟩ (Array.mem_of_getElem? (i := 3) rfl) rfl
                            have q101 : a'.tmps[101]? = some (val 11) := hS.tmpSet 11 _ 101 rfl rfl (by simp) l11
                            rw [show val 11 = .bool (aR == bR) from hF 11 l11] at q101
                            refine op_callv 28 #[.string g, .int .i64 x, .int .i64 y, .bool (aR == bR)] (fun _ _ => trivial) ?_ (by omega) ((callsIn_wide.2 (HCO.out W)).mono ?_)
                            · rw [Oper.semAt_plain _ _ _ (by intro c h; cases h)]
                              simp [execOp, q90, q93, q96, q101, go_sem]
                            · rintro e W2 ⟨rfl, hb⟩
                              exact ⟨_, rfl, hb, rfl⟩
                          · cases ho
                            refine opG_plain rfl rfl ?_
                            have l12 : listed.getD 12 false = true := haf ⟨12, .data⟩ (Array.mem_of_getElem? (i := 0) rfl) rfl
                            have q102 : a'.tmps[102]? = some (val 12) := hS.tmpSet 12 _ 102 rfl rfl (by simp) l12
                            rw [show val 12 = .tuple #[.int .i64 q, .int .i64 er] from hF 12 l12] at q102
                            refine op_valv (.tuple #[.int .i64 q, .int .i64 er]) W (fun _ _ => trivial) ?_ ⟨Below.refl _ _, rfl⟩
                            rw [Oper.semAt_plain _ _ _ (by intro c h; cases h)]
                            simp [execOp, q102, go_sem]
                          · cases ho
                            refine opG_plain rfl rfl ?_
                            have l13 : listed.getD 13 false = true := haf ⟨13, .data⟩ (Array.mem_of_getElem? (i := 0) rfl) rfl
                            have q89 : a'.tmps[89]? = some (val 13) := hS.tmpSet 13 _ 89 rfl rfl (by simp) l13
                            rw [show val 13 = .tuple #[.int .i64 q, .int .i64 er] from hF 13 l13] at q89
                            refine op_valv (.int .i64 q) W (fun _ _ => trivial) ?_ ⟨Below.refl _ _, rfl⟩
                            rw [Oper.semAt_plain _ _ _ (by intro c h; cases h)]
                            simp [execOp, q89, go_sem]
                          · cases ho
                            refine opG_plain rfl rfl ?_
                            have l13 : listed.getD 13 false = true := haf ⟨13, .data⟩ (Array.mem_of_getElem? (i := 0) rfl) rfl
                            have q89 : a'.tmps[89]? = some (val 13) := hS.tmpSet 13 _ 89 rfl rfl (by simp) l13
                            rw [show val 13 = .tuple #[.int .i64 q, .int .i64 er] from hF 13 l13] at q89
                            refine op_valv (.int .i64 er) W (fun _ _ => trivial) ?_ ⟨Below.refl _ _, rfl⟩
                            rw [Oper.semAt_plain _ _ _ (by intro c h; cases h)]
                            simp [execOp, q89, go_sem]
                          · cases ho
                            refine opG_plain rfl rfl ?_
                            have l14 : listed.getD 14 false = true := haf ⟨14, .data⟩ (Array.mem_of_getElem? (i := 0) rfl) rfl
                            have q103 : a'.tmps[103]? = some (val 14) := hS.tmpSet 14 _ 103 rfl rfl (by simp) l14
                            rw [show val 14 = .int .i64 q from hF 14 l14] at q103
                            refine op_valv (.int .i64 q) W (fun _ _ => trivial) ?_ ⟨Below.refl _ _, rfl⟩
                            rw [Oper.semAt_plain _ _ _ (by intro c h; cases h)]
                            simp [execOp, q103, go_sem]
                          · cases ho
                            refine opG_plain rfl rfl ?_
                            have l15 : listed.getD 15 false = true := haf ⟨15, .data⟩ (Array.mem_of_getElem? (i := 0) rfl) rfl
                            have q104 : a'.tmps[104]? = some (val 15) := hS.tmpSet 15 _ 104 rfl rfl (by simp) l15
                            rw [show val 15 = .int .i64 er from hF 15 l15] at q104
                            refine op_valv (.int .i64 er) W (fun _ _ => trivial) ?_ ⟨Below.refl _ _, rfl⟩
                            rw [Oper.semAt_plain _ _ _ (by intro c h; cases h)]
                            simp [execOp, q104, go_sem]
                        · intro w5 val hb hF
                          have e0 : val 0 = .string g := hF 0 (by decide)
                          have e1 : val 1 = .agg #[.bool aL, .bool aR, .slice sa na sc] := hF 1 (by decide)
                          have e2 : val 2 = .int .i64 (k : Nat) := hF 2 (by decide)
                          have e3 : val 3 = .int .i64 x := hF 3 (by decide)
                          have e4 : val 4 = .agg #[.bool bL, .bool bR, .slice ta nb tc] := hF 4 (by decide)
                          have e5 : val 5 = .int .i64 (k : Nat) := hF 5 (by decide)
                          have e6 : val 6 = .int .i64 y := hF 6 (by decide)
                          have e7 : val 7 = .pointer (some ⟨w.heap.size, 1, none⟩) := hF 7 (by decide)
                          have e8 : val 8 = .bool aR := hF 8 (by decide)
                          have e9 : val 9 = .pointer (some ⟨w.heap.size + 1, 1, none⟩) := hF 9 (by decide)
                          have e10 : val 10 = .bool bR := hF 10 (by decide)
                          have e11 : val 11 = .bool (aR == bR) := hF 11 (by decide)
                          have e12 : val 12 = .tuple #[.int .i64 q, .int .i64 er] := hF 12 (by decide)
                          have e13 : val 13 = .tuple #[.int .i64 q, .int .i64 er] := hF 13 (by decide)
                          have e14 : val 14 = .int .i64 q := hF 14 (by decide)
                          have e15 : val 15 = .int .i64 er := hF 15 (by decide)
                          have e16 : val 16 = .int .i64 q := hF 16 (by decide)
                          have e17 : val 17 = .int .i64 er := hF 17 (by decide)
                          simp only [finAct, List.getElem?_toArray, List.getElem?_cons_zero, List.getElem?_cons_succ, Act.put, List.setIfInBounds_toArray, List.set_cons_zero, List.set_cons_succ, List.size_toArray, List.length_cons, List.length_nil, Nat.reduceAdd]
                          simp only [e0, e1, e2, e3, e4, e5, e6, e7, e8, e9, e10, e11, e12, e13, e14, e15, e16, e17]
                          clear e0 e1 e2 e3 e4 e5 e6 e7 e8 e9 e10 e11 e12 e13 e14 e15 e16 e17 hF val
                          clear HLA HLX HCX HCY HCO
                          skip
                          have HB5 := Lib.hid (HB.out.trans (hb.mono HB.out.size))
                          have HA5 := Lib.hid (HA.out.below hb HA.out.lt)
                          have HA25 := Lib.hid (HA2.out.below hb HA2.out.lt)
                          have HR5 := Lib.hid (HR.out.below hb HR.out.lt)
                          have HO5 := Lib.hid (HO.out.below hb HO.out.lt)
                          have HOWN5 := Lib.hid (HOWN.out.below hb)
                          clear hb
                          by_cases he : er = 0
                          · subst he
                            have HPE := Lib.hid hp
                            obtain ⟨i0, hi, hz0, hz1, hz2⟩ := infoI
                            have o2 := HOWN5.out.below ((Below.refl w5.heap.size w5).alloc (Nat.le_refl _) (.cells #[.int .i64 q] 2))
                            have o3 := o2
                            change World.ownsRow _ _ _ _ _ _ _ at o3
                            rw [thr_take _ _ _ (by rw [HLEN.out]; omega)] at o3
                            have HO3 := Lib.hid o3
                            have r2 : Row (w5.alloc (.cells #[.int .i64 q] 2)) bo 24 #[.bool LL, .bool false, .slice va k vc] := HO5.out.alloc _
                            have hne : (Value.slice va k vc).ownBlock ≠ some bo := own_off HOWN5.out HO5.out (by decide)
                            have HR2 := Lib.hid r2
                            have HNE := Lib.hid hne
                            have H1 : Hid (∀ (j : Nat) (u : Value), [Value.int .i64 q][j]? = some u → (w5.alloc (.cells #[.int .i64 q] 2)).cell? ((⟨w5.heap.size, 0, none⟩ : Addr).add j) = some u) := Lib.hid (World.news_of_block (World.alloc_heap_new w5 (.cells #[.int .i64 q] 2)))
                            have H4 : Hid (k + 1 ≤ maxLen ∧ (k + 1) * 8 ≤ 140737488355328 ∧ w.heap.size ≤ (w5.alloc (.cells #[.int .i64 q] 2)).heap.size) := Lib.hid ⟨by unfold maxLen; omega, by omega, by rw [World.size_alloc]; exact Nat.le_succ_of_le HB5.out.size⟩
                            obtain ⟨z0, z1, z2, -, -, -⟩ := row3 HO5.out
                            clear o2 o3 r2 hne hp
                            go_wp2_with (at_builtin; refine wpList_append_own_at _ rfl (.tmp 110) (.tmp 112) 22 rfl w.heap.size 2 i0 (.int .i64 0) 1 8 Tryz.underlying22 hi hz0 hz1 hz2 rfl (by decide) (.slice va k vc) k (nums (thrN h (P.take k))) rfl HO3.out ⟨w5.heap.size, 0, none⟩ 1 1 [.int .i64 q] rfl rfl H1.out (by simp [Value.oneCell']) H4.out.1 H4.out.2.1 H4.out.2.2 ?_; intro v' w3 how3 hg3 _ hob3; have HO4 := Lib.hid how3; have HG3 := Lib.hid hg3; have k6 : Row w3 bo 24 #[.bool LL, .bool false, .slice va k vc] := (hg3.block bo HR2.out.lt (fun e => HNE.out e.symm)).trans HR2.out; obtain ⟨d0, d1, d2, g0, g1, g2⟩ := row3 k6; have HR8 := Lib.hid k6; obtain ⟨gv, cap2, rfl⟩ : ∃ gv cap2, v' = .slice (some ⟨gv, 0, none⟩) (k + 1) cap2 := (by rcases how3.2 with ⟨_, h⟩ | ⟨gv, cap2, cur, h, _⟩; exact absurd h (by omega); exact ⟨gv, cap2, h⟩); clear how3 hg3 hob3 k6)
                            go_roundw
                            case rel =>
                              have hbg : Below w.heap.size w w3 := (HB5.out.alloc HB5.out.size _).grown HG3.out (by rw [World.size_alloc]; exact Nat.le_succ_of_le HB5.out.size) (fun j e => (own_base HOWN5.out e).1)
                              have kHA := (HG3.out.block _ (HA5.out.alloc (.cells #[.int .i64 q] 2)).lt (fun e => own_off HOWN5.out HA5.out (by decide) e.symm)).trans (HA5.out.alloc (.cells #[.int .i64 q] 2))
                              have kHA2 := (HG3.out.block _ (HA25.out.alloc (.cells #[.int .i64 q] 2)).lt (fun e => own_off HOWN5.out HA25.out (by decide) e.symm)).trans (HA25.out.alloc (.cells #[.int .i64 q] 2))
                              have kHR := (HG3.out.block _ (HR5.out.alloc (.cells #[.int .i64 q] 2)).lt (fun e => own_off HOWN5.out HR5.out (by decide) e.symm)).trans (HR5.out.alloc (.cells #[.int .i64 q] 2))
                              have ho4 : IOwn w3 w.heap.size (.slice (some ⟨gv, 0, none⟩) (k + 1) cap2) (thrN h (P.take (k + 1))) := by
                                have e1 := thr_snoc (h := h) HPX.out
                                dsimp only at e1
                                rw [HPE.out] at e1
                                have := HO4.out
                                show World.ownsRow _ _ _ _ _ _ _
                                rw [thr_take _ _ _ (by rw [HLEN.out]; omega), e1, nums_snoc]
                                exact this
                              refine ⟨k + 1, some ⟨gv, 0, none⟩, cap2, by omega, by go_num, hbg.setCell (p := ⟨bo, 2, none⟩) (by have := HBO.out; show w.heap.size ≤ bo; omega) _, Row.other kHA (by have := HBO.out; omega) _, Row.other kHA2 (by have := HBO.out; omega) _, Row.other kHR (by have := HBO.out; omega) _, ?_, ho4.keep (fun j e => Below.heap_setCell _ ⟨bo, 2, none⟩ _ j (fun e2 => own_off ho4 HR8.out (by decide) (by rw [e, e2]))), ok_snoc HPX.out HOK.out (by rw [HPE.out])⟩
                              have := HR8.out.set 2 (.slice (some ⟨gv, 0, none⟩) (k + 1) cap2)
                              simpa using this
                            case measure => simp [intOf]; omega
                          · have hst := thr_stop HPX.out HOK.out (show (h x y).2 ≠ 0 from by rw [hp]; exact he)
                            dsimp only at hst
                            rw [hp] at hst
                            dsimp only at hst
                            have hZ := HBAD.out (by rw [hst]; exact he)
                            subst hZ
                            have hc := HCE.out.trans hst
                            subst hc
                            have t1 : (c != 0) = true := by simpa using he
                            clear HZ HBAD HCE hst hp
                            obtain ⟨m0, m1, m2, f0, f1, f2⟩ := row3 HR5.out
                            go_wp2_with fail
                            obtain ⟨v0, v1, v2, -, -, -⟩ := row3 (row_set3 HR5.out (.bool false) (.bool false) (.slice none 0 0))
                            have hle : w.heap.size ≤ w.heap.size + 2 := by omega
                            exact bodyPost_ret (v := .tuple #[.agg #[.bool false, .bool false, .slice none 0 0], .int .i64 c]) (by simp [results, Tryz.f14, go_sem, v0, v1, v2]) rfl ⟨none, 0, 0, rfl, IOwn.nil _ _, ((HB5.out.setCell (p := ⟨w.heap.size + 2, 0, none⟩) hle _).setCell (p := ⟨w.heap.size + 2, 1, none⟩) hle _).setCell (p := ⟨w.heap.size + 2, 2, none⟩) hle _⟩
                      · obtain rfl : n = k := by omega
                        have hall : P.take n = P := by rw [← HLEN.out, List.take_length]
                        rw [hall] at hok ho
                        have h0 : thrE h P = 0 := thrE_ok hok
                        have hZ := HZ.out h0
                        subst hZ
                        have hc := HCE.out.trans h0
                        subst hc
                        have HOW := Lib.hid ho
                        obtain ⟨m0, m1, m2, f0, f1, f2⟩ := row3 rr
                        obtain ⟨z0, z1, z2, -, -, -⟩ := row3 ro
                        clear hB ra rr ro ho hok hall h0 HZ HBAD HOK HOWN HCE
                        go_wp2_with fail
                        obtain ⟨v0, v1, v2, -, -, -⟩ := row3 (row_set3 HR.out (.bool LL) (.bool false) (.slice va n vc))
                        have hle : w.heap.size ≤ w.heap.size + 2 := by omega
                        exact bodyPost_ret (v := .tuple #[.agg #[.bool LL, .bool false, .slice va n vc], .int .i64 0]) (by simp [results, Tryz.f14, go_sem, v0, v1, v2]) rfl ⟨va, n, vc, rfl, own_off3 HOW.out HR.out _ _ _, ((HB.out.setCell (p := ⟨w.heap.size + 2, 0, none⟩) hle _).setCell (p := ⟨w.heap.size + 2, 1, none⟩) hle _).setCell (p := ⟨w.heap.size + 2, 2, none⟩) hle _⟩
end Go.Proofs.YthlkgfplffdiaaaGreatDoor.Ar
