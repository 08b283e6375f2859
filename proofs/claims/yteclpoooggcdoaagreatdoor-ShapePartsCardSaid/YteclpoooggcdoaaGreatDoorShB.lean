/- Merged by gen/sh_merge.py: ShPut, ShCut, ShFills, ShPuti, ShPuto. -/
import Derived.Test.YteclpoooggcdoaaGreatDoorArVal
import Derived.Test.YteclpoooggcdoaaGreatDoorShA
/- A region that draws its order within a fence: calls make memory; some stores write boxes, behind what they write. -/
namespace Go.Proofs.YteclpoooggcdoaaGreatDoor.Ar
open Go Go.RowKit
section
variable {F : Fence} {n : Nat} {P : Program} {ops : Array Oper} {Q : Exit → Act → World → Prop}
theorem wpIn_region_putI {id : Nat} {a : Act} {w : World} (hm : P.follows .mixedOrders = true) (hp : guardOps ops = true) (Z : List Nat) (ar bx : Nat → Nat) (Kp : Nat → Bool) (hbk : ∀ z ∈ Z, z < ops.size ∧ ar z ∈ backOf ops ops.size z ∧ bx z ∈ backOf ops ops.size z ∧ ar z ∉ Z ∧ bx z ∉ Z) (I : World → Prop) (Ph : Nat → Value → World → Prop) (St : Nat → Value → Value → World → Prop)
    (hI : ∀ W W', Below W.heap.size W W' → I W → I W') (hPh : ∀ i v W W', Below W.heap.size W W' → Ph i v W → Ph i v W') (hSt : ∀ i u v W W', Below W.heap.size W W' → St i u v W → St i u v W') (h0 : I w.drew)
    (hstep : ∀ (i : Nat) (o : Oper) (listed : Array Bool) (a' : Act) (W : World) (val : Nat → Value), ops[i]? = some o → i < ops.size → i ∉ Z → (∀ e ∈ o.after, Region.binds .any e = true → listed.getD e.on false = true) → Shape ops a val listed a' → I W → (∀ j, listed.getD j false = true → (Kp j || Z.all fun z => (backOf ops ops.size z).contains i) = true → Ph j (val j) W) →
      wpOpIn F n P ops Q i (fun a'' W'' => ∃ v, a'' = a'.put o.dst v ∧ Below W.heap.size W W'' ∧ Ph i v W'') a' W)
    (hput : ∀ (z : Nat) (o : Oper) (listed : Array Bool) (a' : Act) (W : World) (val : Nat → Value), z ∈ Z → ops[z]? = some o → (∀ e ∈ o.after, Region.binds .any e = true → listed.getD e.on false = true) → Shape ops a val listed a' → I W → (∀ j, listed.getD j false = true → Kp j = true → Ph j (val j) W) → (∀ y ∈ Z, listed.getD y false = true → y ≠ z → St y (val (bx y)) (val (ar y)) W) →
      wpOpIn F n P ops Q z (fun a'' W'' => ∃ v, a'' = a'.put o.dst v ∧ I W'' ∧ Ph z v W'' ∧ (∀ j, listed.getD j false = true → Kp j = true → Ph j (val j) W'') ∧ St z (val (bx z)) (val (ar z)) W'' ∧ (∀ y ∈ Z, listed.getD y false = true → y ≠ z → St y (val (bx y)) (val (ar y)) W'')) a' W)
    (hend : ∀ (W : World) (val : Nat → Value), I W → (∀ j, j < ops.size → Kp j = true → Ph j (val j) W) → (∀ z ∈ Z, St z (val (bx z)) (val (ar z)) W) → Q .normal (finAct ops a val ops.size) W) : (Code.region id ops true).wpIn F n P Q a w := by
  refine wpIn_region_valsG hm hp (fun listed val W => listed.size = ops.size ∧ Closed .any ops listed ∧ I W ∧ (∀ j, listed.getD j false = true → (Kp j || Z.all fun z => !listed.getD z false) = true → Ph j (val j) W) ∧ (∀ z ∈ Z, listed.getD z false = true → St z (val (bx z)) (val (ar z)) W)) (fun val => ⟨by simp, fun j o ho hl => absurd hl (by rw [rep_getD]; decide), h0, fun j hl => absurd hl (by rw [rep_getD]; decide), fun z _ hl => absurd hl (by rw [rep_getD]; decide)⟩) (fun i o listed a' W val ho hsz hu haf hS hJ => ?_) (fun listed W val hl hJ => ?_)
  · obtain ⟨hs, hcl, hIW, hF, hT⟩ := hJ
    have hi := (Array.getElem?_eq_some_iff.1 ho).1
    have hset : ∀ j, (listed.setIfInBounds i true).getD j false = if i = j then true else listed.getD j false := fun j => lset hs hi
    have hcl' : Closed .any ops (listed.setIfInBounds i true) := fun j o' ho' hlj e he hb => by
      rw [hset] at hlj ⊢
      by_cases e1 : i = j
      · subst e1
        rw [ho] at ho'
        cases ho'
        split
        · rfl
        · exact haf e he hb
      · rw [if_neg e1] at hlj
        split
        · rfl
        · exact hcl j o' ho' hlj e he hb
    have hback : ∀ z ∈ Z, listed.getD z false = true → ∀ x ∈ backOf ops ops.size z, x ≠ i := fun z hz hlz x hx e => by
      have hzl := (hbk z hz).1
      have hoz : ops[z]? = some ops[z] := Array.getElem?_eq_getElem hzl
      have := back_listed hcl _ z _ hoz (fun e he hb => hcl z _ hoz hlz e he hb) x hx
      rw [e, hu] at this
      cases this
    by_cases hzi : i ∈ Z
    · refine wpOpIn_mono' (fun a'' W'' h' => ?_) (hput i o listed a' W val hzi ho haf hS hIW (fun j hj hk => hF j hj (by rw [hk]; rfl)) (fun y hy hly _ => hT y hy hly))
      obtain ⟨v, rfl, hb, hv, hk, hst, hso⟩ := h'
      refine ⟨v, rfl, by simp [hs], hcl', hb, fun j hlj hkj => ?_, fun z hz hlz => ?_⟩
      · have hkj' : Kp j = true := by
          cases hq : Kp j with
          | true => rfl
          | false =>
            rw [hq, Bool.false_or, List.all_eq_true] at hkj
            have := hkj i hzi
            rw [hset, if_pos rfl] at this
            cases this
        rw [hset] at hlj
        by_cases e : i = j
        · subst e
          simp only [if_pos]
          exact hv
        · rw [if_neg e] at hlj
          simp only [if_neg (Ne.symm e)]
          exact hk j hlj hkj'
      · have n1 : bx z ≠ i := fun e => (hbk z hz).2.2.2.2 (e ▸ hzi)
        have n2 : ar z ≠ i := fun e => (hbk z hz).2.2.2.1 (e ▸ hzi)
        simp only [if_neg n1, if_neg n2]
        by_cases e : z = i
        · subst e
          exact hst
        · rw [hset, if_neg (Ne.symm e)] at hlz
          exact hso z hz hlz e
    · have hzi' : ∀ z ∈ Z, i ≠ z := fun z hz e => hzi (e ▸ hz)
      refine wpOpIn_mono' (fun a'' W'' h' => ?_) (hstep i o listed a' W val ho hi hzi haf hS hIW (fun j hj hk => ?_))
      · obtain ⟨v, rfl, hb, hv⟩ := h'
        refine ⟨v, rfl, by simp [hs], hcl', hI _ _ hb hIW, fun j hlj hkj => ?_, fun z hz hlz => ?_⟩
        · rw [hset] at hlj
          by_cases e : i = j
          · subst e
            simp only [if_pos]
            exact hv
          · rw [if_neg e] at hlj
            simp only [if_neg (Ne.symm e)]
            refine hPh _ _ _ _ hb (hF j hlj ?_)
            cases hq : Kp j with
            | true => rfl
            | false =>
              rw [hq, Bool.false_or, List.all_eq_true] at hkj
              rw [Bool.false_or, List.all_eq_true]
              intro z hz
              have := hkj z hz
              rw [hset, if_neg (hzi' z hz)] at this
              exact this
        · rw [hset, if_neg (hzi' z hz)] at hlz
          have n1 : bx z ≠ i := hback z hz hlz _ (hbk z hz).2.2.1
          have n2 : ar z ≠ i := hback z hz hlz _ (hbk z hz).2.1
          simp only [if_neg n1, if_neg n2]
          exact hSt _ _ _ _ _ hb (hT z hz hlz)
      · refine hF j hj ?_
        cases hq : Kp j with
        | true => rfl
        | false =>
          rw [hq, Bool.false_or, List.all_eq_true] at hk
          rw [Bool.false_or, List.all_eq_true]
          intro z hz
          cases hlz : listed.getD z false with
          | false => rfl
          | true => exact absurd rfl (hback z hz hlz i (by have := hk z hz; simpa using this))
  · obtain ⟨_, _, hIW, hF, hT⟩ := hJ
    exact hend W val hIW (fun j hj hk => hF j (hl j hj) (by rw [hk]; rfl)) (fun z hz => hT z hz (hl z (hbk z hz).1))
end
/-- A box of an array. -/
def BoxAt (W : World) (h : Nat) : Prop := ∃ x y a n c, Row W h 24 #[.bool x, .bool y, .slice a n c]
theorem BoxAt.below {W W' : World} {h : Nat} (hb : Below W.heap.size W W') : BoxAt W h → BoxAt W' h
  | ⟨x, y, a, n, c, hr⟩ => ⟨x, y, a, n, c, hr.below hb hr.lt⟩
abbrev set3 (W : World) (h : Nat) (p q r : Value) : World := ((W.setCell ⟨h, 0, none⟩ p).setCell ⟨h, 1, none⟩ q).setCell ⟨h, 2, none⟩ r
theorem row_off3 {W : World} {h k : Nat} {t : TypeId} {cs : Array Value} (hr : Row W k t cs) (hne : k ≠ h) (p q r : Value) : Row (set3 W h p q r) k t cs := ((hr.other hne (i := 0) p).other hne (i := 1) q).other hne (i := 2) r
/-- What holds all through such a region: the boxes bs may be written, the rows rs are only read. -/
def IB (w : World) (bs : List Nat) (rs : List (Nat × TypeId × Array Value)) (W : World) : Prop := Below w.heap.size w W ∧ (∀ h ∈ bs, w.heap.size ≤ h ∧ BoxAt W h) ∧ ∀ r ∈ rs, Row W r.1 r.2.1 r.2.2
theorem IB.below {w : World} {bs : List Nat} {rs : List (Nat × TypeId × Array Value)} {W W' : World} (hb : Below W.heap.size W W') (h : IB w bs rs W) : IB w bs rs W' :=
  ⟨h.1.trans (hb.mono h.1.size), fun k hk => ⟨(h.2.1 k hk).1, (h.2.1 k hk).2.below hb⟩, fun r hr => (h.2.2 r hr).below hb (h.2.2 r hr).lt⟩
theorem IB.put {w : World} {bs : List Nat} {rs : List (Nat × TypeId × Array Value)} {W : World} {h : Nat} (hi : IB w bs rs W) (hle : w.heap.size ≤ h) (hbx : BoxAt W h) (hne : ∀ r ∈ rs, r.1 ≠ h) (x y : Bool) (a : Option Addr) (n c : Nat) : IB w bs rs (set3 W h (.bool x) (.bool y) (.slice a n c)) := by
  obtain ⟨x', y', a', n', c', hr⟩ := hbx
  refine ⟨((hi.1.setCell (p := ⟨h, 0, none⟩) hle _).setCell (p := ⟨h, 1, none⟩) hle _).setCell (p := ⟨h, 2, none⟩) hle _, fun k hk => ⟨(hi.2.1 k hk).1, ?_⟩, fun r hr' => row_off3 (hi.2.2 r hr') (hne r hr') _ _ _⟩
  by_cases e : k = h
  · subst e
    exact ⟨x, y, a, n, c, srow_set3 hr _ _ _⟩
  · obtain ⟨x2, y2, a2, n2, c2, hr2⟩ := (hi.2.1 k hk).2
    exact ⟨x2, y2, a2, n2, c2, row_off3 hr2 e _ _ _⟩
/-- What an operation comes to: a value; one around numbers in memory; around two of them; a row of one number; some arrays; a box. -/
inductive SK where
  | val (v : Value)
  | any
  | sl (f : Value → Value) (N : List Int)
  | sl2 (f : Value → Value → Value) (N M : List Int)
  | one (x : Int)
  | jat (As : List Ary)
  | box (base : Nat)
  | row (n : Nat) (t : TypeId) (cs : Array Value)
def PhS : SK → Value → World → Prop
  | .val u, v, _ => v = u
  | .any, _, _ => True
  | .sl f N, v, W => ∃ va vn vc, v = f (.slice va vn vc) ∧ KL W (.slice va vn vc) N
  | .sl2 f N M, v, W => ∃ va vn vc ua un uc, v = f (.slice va vn vc) (.slice ua un uc) ∧ KL W (.slice va vn vc) N ∧ KL W (.slice ua un uc) M
  | .one x, v, W => ∃ b, v = .slice (some ⟨b, 0, none⟩) 1 1 ∧ KL W v [x]
  | .jat As, v, W => ∃ b, v = .slice (some ⟨b, 0, none⟩) As.length As.length ∧ JAt W b 0 As
  | .box base, v, W => ∃ b, v = .pointer (some ⟨b, 0, none⟩) ∧ base ≤ b ∧ BoxAt W b
  | .row n t cs, v, W => ∃ b, v = .slice (some ⟨b, 0, none⟩) n n ∧ Row W b t cs
theorem PhS.below : ∀ {k : SK} {v : Value} {W W' : World}, Below W.heap.size W W' → PhS k v W → PhS k v W'
  | .val _, _, _, _, _, h => h
  | .any, _, _, _, _, h => h
  | .sl _ _, _, _, _, hb, ⟨va, vn, vc, h1, h2⟩ => ⟨va, vn, vc, h1, h2.below hb⟩
  | .sl2 _ _ _, _, _, _, hb, ⟨va, vn, vc, ua, un, uc, h1, h2, h3⟩ => ⟨va, vn, vc, ua, un, uc, h1, h2.below hb, h3.below hb⟩
  | .one _, _, _, _, hb, ⟨b, h1, h2⟩ => ⟨b, h1, h2.below hb⟩
  | .jat _, _, _, _, hb, ⟨b, h1, h2⟩ => ⟨b, h1, h2.below hb⟩
  | .box _, _, _, _, hb, ⟨b, h1, h2, h3⟩ => ⟨b, h1, h2, h3.below hb⟩
  | .row _ _ _, _, _, _, hb, ⟨b, h1, h2⟩ => ⟨b, h1, h2.below hb h2.lt⟩
def keepK : SK → Bool
  | .jat _ => false
  | .box _ => false
  | .row _ _ _ => false
  | _ => true
theorem PhS.put {W : World} {h : Nat} (hbx : BoxAt W h) (p q r : Value) : ∀ {k : SK} {v : Value}, keepK k = true → PhS k v W → PhS k v (set3 W h p q r) := by
  obtain ⟨x, y, a, n, c, hr⟩ := hbx
  intro k v hk hp
  cases k with
  | val u => exact hp
  | any => exact hp
  | sl f N =>
    obtain ⟨va, vn, vc, h1, h2⟩ := hp
    exact ⟨va, vn, vc, h1, skl_set3 h2 hr _ _ _⟩
  | sl2 f N M =>
    obtain ⟨va, vn, vc, ua, un, uc, h1, h2, h3⟩ := hp
    exact ⟨va, vn, vc, ua, un, uc, h1, skl_set3 h2 hr _ _ _, skl_set3 h3 hr _ _ _⟩
  | one x =>
    obtain ⟨b, h1, h2⟩ := hp
    exact ⟨b, h1, skl_set3 h2 hr _ _ _⟩
  | jat As => cases hk
  | box base => cases hk
  | row n t cs => cases hk
/-- What a store leaves. -/
def StS (u v : Value) (W : World) : Prop := ∀ b x y s, u = .pointer (some ⟨b, 0, none⟩) → v = .agg #[.bool x, .bool y, s] → Row W b 24 #[.bool x, .bool y, s]
theorem StS.below {u v : Value} {W W' : World} (hb : Below W.heap.size W W') (h : StS u v W) : StS u v W' := fun b x y s h1 h2 => (h b x y s h1 h2).below hb (h b x y s h1 h2).lt
theorem StS.of {W : World} {h : Nat} (hbx : BoxAt W h) (x y : Bool) (s : Value) : StS (.pointer (some ⟨h, 0, none⟩)) (.agg #[.bool x, .bool y, s]) (set3 W h (.bool x) (.bool y) s) := by
  obtain ⟨x', y', a, n, c, hr⟩ := hbx
  intro b x2 y2 s2 h1 h2
  injection h1 with h1
  injection h1 with h1
  injection h1 with h1
  subst h1
  cases h2
  exact srow_set3 hr _ _ _
theorem StS.other {W : World} {h k : Nat} {v : Value} (hs : StS (.pointer (some ⟨k, 0, none⟩)) v W) (hne : k ≠ h) (p q r : Value) : StS (.pointer (some ⟨k, 0, none⟩)) v (set3 W h p q r) := fun b x y s h1 h2 => by
  have := hs b x y s h1 h2
  injection h1 with h1
  injection h1 with h1
  injection h1 with h1
  subst h1
  exact row_off3 this hne _ _ _
/-- What a store into the region's own box leaves. -/
def StO (base : Nat) (u v : Value) (W : World) : Prop := ∃ b, u = .pointer (some ⟨b, 0, none⟩) ∧ base ≤ b ∧ StS u v W
theorem StO.below {base : Nat} {u v : Value} {W W' : World} (hb : Below W.heap.size W W') : StO base u v W → StO base u v W'
  | ⟨b, h1, h2, h3⟩ => ⟨b, h1, h2, h3.below hb⟩
end Go.Proofs.YteclpoooggcdoaaGreatDoor.Ar
/- shape's parts of an array. -/
namespace Go.Proofs.YteclpoooggcdoaaGreatDoor.Ar
open Go Go.RowKit
attribute [local go_sem] Oper.semAt_some

theorem kl_sub {W : World} {a0 : Option Addr} {n c : Nat} {A : List Int} (h : KL W (.slice a0 n c) A) {i j : Nat} (hij : i < j) (hj : j ≤ A.length) : ∃ g o, a0 = some ⟨g, o, none⟩ ∧ KL W (.slice (some ⟨g, o + i, none⟩) (j - i) (j - i)) ((A.take j).drop i) := by
  obtain ⟨g, o, c0, hv, hg, hc⟩ := h.cells (by omega)
  obtain ⟨a1, c1, hv1, hc1, hc2⟩ := h.form
  have hl : ((A.take j).drop i).length = j - i := by rw [List.length_drop, List.length_take]; omega
  refine ⟨g, o, by injection hv, ⟨_, j - i, by rw [hl], by rw [hl]; exact Nat.le_refl _, by omega⟩, fun _ => ⟨g, o + i, j - i, by rw [hl], hg, fun k x hx => ?_⟩⟩
  have hk : k < j - i := by rw [← hl]; exact (List.getElem?_eq_some_iff.1 hx).1
  rw [List.getElem?_drop, List.getElem?_take, if_pos (by omega)] at hx
  rw [Nat.add_assoc]
  exact hc (i + k) x hx
theorem kl_empty (W : World) (a0 : Option Addr) : KL W (.slice a0 0 0) [] := ⟨⟨a0, 0, rfl, Nat.le_refl _, Nat.zero_le _⟩, fun h => by simp at h⟩
set_option maxRecDepth 100000 in
set_option maxHeartbeats 2000000 in
theorem part_c (a b : Ary) (s t : Value) (i j : Nat) (w : World) (hs : KL w s a.n) (ht : KL w t b.n) (hij : i ≤ j) (hj : j ≤ b.n.length) (hl : b.n.length ≤ 1000) : Calls Tryz.prog 92 #[pairV a b s t, .int .i64 (i : Int), .int .i64 (j : Int)] w fun e w' => ∃ v, e = .returned (.agg #[.bool true, .bool b.runes, v]) ∧ KL w' v ((b.n.take j).drop i) ∧ Below w.heap.size w w' := by
  obtain ⟨aL, aR, aN⟩ := a
  obtain ⟨bL, bR, bN⟩ := b
  dsimp only [pairV] at *
  obtain ⟨sa, sc, hsf, -, -⟩ := hs.form
  obtain ⟨sn, hsn⟩ : ∃ sn, sn = aN.length := ⟨_, rfl⟩
  rw [← hsn] at hsf
  subst hsf
  obtain ⟨ta, tc, htf, htc, htm⟩ := ht.form
  obtain ⟨tn, htn⟩ : ∃ tn, tn = bN.length := ⟨_, rfl⟩
  rw [← htn] at htf htc hj hl
  subst htf
  unfold maxLen at htm
  obtain ⟨w2, hw2⟩ : ∃ w2, w2 = (w.alloc (.cells #[.bool aL, .bool aR, .slice sa sn sc, .bool bL, .bool bR, .slice ta tn tc] 64)).alloc (.cells #[.bool false, .bool false, .slice none 0 0] 24) := ⟨_, rfl⟩
  have hb2 : Below w.heap.size w w2 := by rw [hw2]; exact ((Below.refl _ w).alloc (Nat.le_refl _) _).alloc (by simp) _
  have r1 : Row w2 w.heap.size 64 #[.bool aL, .bool aR, .slice sa sn sc, .bool bL, .bool bR, .slice ta tn tc] := by rw [hw2]; exact (Row.new _ _ _).alloc _
  have r2 : Row w2 (w.heap.size + 1) 24 #[.bool false, .bool false, .slice none 0 0] := by rw [hw2]; exact Row.at _ _ _ _ (by simp)
  have hk := ht.below hb2
  obtain ⟨c0, c1, c2, c3, c4, c5⟩ := srow6 r1
  obtain ⟨d0, d1, d2, f0, f1, f2⟩ := srow3 r2
  have HW2 := Lib.hid hw2
  have HB2 := Lib.hid hb2
  have HR2 := Lib.hid r2
  have hij' : (i : Int) ≤ (j : Int) := by omega
  have hj2 : (j : Int) ≤ (tc : Int) := by omega
  by_cases h0 : i = j
  · subst h0
    have HE : Hid ((bN.take i).drop i = []) := Lib.hid (List.drop_eq_nil_of_le (by rw [List.length_take]; omega))
    clear hs ht hsn htn hw2 hb2 r1 r2 hk
    go_enter Tryz.func92, Tryz.ntmps92
    go_wp2_with fail
    rw [← HW2.out]
    go_region
    have hf := fin_of HB2.out (show w.heap.size ≤ w.heap.size + 1 by omega) HR2.out (.bool true) (.bool bR) (.slice ta 0 0)
    go_wp2
    refine bodyPost_ret (v := .agg #[.bool true, .bool bR, .slice ta 0 0]) (by simp [results, Tryz.f92, go_sem, hf.c0, hf.c1, hf.c2]) rfl ⟨_, rfl, by rw [HE.out]; exact kl_empty _ _, hf.below.drew⟩
  · obtain ⟨g, o, rfl, hks⟩ := kl_sub hk (i := i) (j := j) (by omega) (by omega)
    have HK := Lib.hid hks
    have hne : ¬ j = i := fun h => h0 h.symm
    have es : (j : Int) - (i : Int) = ((j - i : Nat) : Int) := by omega
    clear hs ht hsn htn hw2 hb2 r1 r2 hk hks
    go_enter Tryz.func92, Tryz.ntmps92
    go_wp2_with fail
    rw [← HW2.out]
    go_region
    have hf := fin_of HB2.out (show w.heap.size ≤ w.heap.size + 1 by omega) HR2.out (.bool true) (.bool bR) (.slice (some ⟨g, o + i, none⟩) (j - i) (j - i))
    have hk9 := (hf.kl _ _ HK.out).drew'
    go_wp2
    refine bodyPost_ret (v := .agg #[.bool true, .bool bR, .slice (some ⟨g, o + i, none⟩) (j - i) (j - i)]) (by simp [results, Tryz.f92, go_sem, hf.c0, hf.c1, hf.c2]) rfl ⟨_, rfl, hk9, hf.below.drew⟩
set_option maxRecDepth 100000 in
set_option maxHeartbeats 4000000 in
theorem cut_c (a b : Ary) (s t : Value) (n : Int) (w : World) (hs : KL w s a.n) (ht : KL w t b.n) (hl : b.n.length ≤ 1000) (hn : Nu.In n) : Calls Tryz.prog 79 #[pairV a b s t, .int .i64 n] w fun e w' => ∃ va vn vc ua un uc, e = .returned (.tuple #[.agg #[.bool true, .bool b.runes, .slice va vn vc], .agg #[.bool true, .bool b.runes, .slice ua un uc]]) ∧ KL w' (.slice va vn vc) (tkL n b.n) ∧ KL w' (.slice ua un uc) (otL n b.n) ∧ Below w.heap.size w w' := by
  have hPart : ∀ (W : World) (i j : Nat), Below w.heap.size w W → i ≤ j → j ≤ b.n.length → Calls Tryz.prog 92 #[pairV a b s t, .int .i64 (i : Int), .int .i64 (j : Int)] W fun e w' => ∃ va vn vc, e = .returned (.agg #[.bool true, .bool b.runes, .slice va vn vc]) ∧ KL w' (.slice va vn vc) ((b.n.take j).drop i) ∧ Below W.heap.size W w' := fun W i j hb hij hj => by
    refine (part_c a b s t i j W (hs.below hb) (ht.below hb) hij hj hl).mono ?_
    rintro e w' ⟨v, rfl, hk, hb⟩
    obtain ⟨va, vc, rfl, -, -⟩ := hk.form
    exact ⟨va, _, vc, rfl, hk, hb⟩
  obtain ⟨aL, aR, aN⟩ := a
  obtain ⟨bL, bR, bN⟩ := b
  dsimp only [pairV] at *
  obtain ⟨sa, sc, hsf, -, -⟩ := hs.form
  obtain ⟨sn, hsn⟩ : ∃ sn, sn = aN.length := ⟨_, rfl⟩
  rw [← hsn] at hsf
  subst hsf
  obtain ⟨ta, tc, htf, htc, htm⟩ := ht.form
  obtain ⟨tn, htn⟩ : ∃ tn, tn = bN.length := ⟨_, rfl⟩
  rw [← htn] at htf htc hl
  subst htf
  -- where
  obtain ⟨at', hat⟩ : ∃ m : Nat, m = if n < 0 then ((tn : Int) + n).toNat else min n.toNat tn := ⟨_, rfl⟩
  have hat1 : at' ≤ tn := by rw [hat]; split <;> omega
  obtain ⟨A1, hA1⟩ : ∃ A, A = (bN.take tn).drop at' := ⟨_, rfl⟩
  obtain ⟨A0, hA0⟩ : ∃ A, A = (bN.take at').drop 0 := ⟨_, rfl⟩
  have hA1' : A1 = bN.drop at' := by rw [hA1, htn, List.take_length]
  have hA0' : A0 = bN.take at' := by rw [hA0, List.drop_zero]
  obtain ⟨w2, hw2⟩ : ∃ w2, w2 = ((w.alloc (.cells #[.bool aL, .bool aR, .slice sa sn sc, .bool bL, .bool bR, .slice ta tn tc] 64)).alloc (.cells #[.bool false, .bool false, .slice none 0 0] 24)).alloc (.cells #[.bool false, .bool false, .slice none 0 0] 24) := ⟨_, rfl⟩
  have hb2 : Below w.heap.size w w2 := by rw [hw2]; exact (((Below.refl _ w).alloc (Nat.le_refl _) _).alloc (by simp) _).alloc (by simp; omega) _
  have hs2 : w2.heap.size = w.heap.size + 1 + 1 + 1 := by rw [hw2]; simp
  have r1 : Row w2 w.heap.size 64 #[.bool aL, .bool aR, .slice sa sn sc, .bool bL, .bool bR, .slice ta tn tc] := by rw [hw2]; exact ((Row.new _ _ _).alloc _).alloc _
  have r2 : Row w2 (w.heap.size + 1) 24 #[.bool false, .bool false, .slice none 0 0] := by rw [hw2]; exact (Row.at _ _ _ _ (by simp)).alloc _
  have r3 : Row w2 (w.heap.size + 1 + 1) 24 #[.bool false, .bool false, .slice none 0 0] := by rw [hw2]; exact Row.at _ _ _ _ (by simp)
  have HIB : Hid (IB w [w.heap.size + 1, w.heap.size + 1 + 1] [(w.heap.size, 64, #[.bool aL, .bool aR, .slice sa sn sc, .bool bL, .bool bR, .slice ta tn tc])] w2) := Lib.hid ⟨hb2, fun h hh => by
    have hh' : h = w.heap.size + 1 ∨ h = w.heap.size + 1 + 1 := by simpa using hh
    obtain rfl | rfl := hh'
    · exact ⟨by omega, _, _, _, _, _, r2⟩
    · exact ⟨by omega, _, _, _, _, _, r3⟩, fun r hr => by
    obtain rfl : r = _ := by simpa using hr
    exact r1⟩
  have HC1 : Hid (∀ (x : Int) (W : World), x = (at' : Int) → Below w.heap.size w W → Calls Tryz.prog 92 #[.agg #[.bool aL, .bool aR, .slice sa sn sc, .bool bL, .bool bR, .slice ta tn tc], .int .i64 x, .int .i64 (tn : Int)] W fun e w' => ∃ va vn vc, e = .returned (.agg #[.bool true, .bool bR, .slice va vn vc]) ∧ KL w' (.slice va vn vc) A1 ∧ Below W.heap.size W w') := Lib.hid (fun x W hx h => by
    subst hx
    rw [hA1]
    exact hPart W at' tn h hat1 (by rw [← htn]; exact Nat.le_refl _))
  have HC0 : Hid (∀ (x : Int) (W : World), x = (at' : Int) → Below w.heap.size w W → Calls Tryz.prog 92 #[.agg #[.bool aL, .bool aR, .slice sa sn sc, .bool bL, .bool bR, .slice ta tn tc], .int .i64 0, .int .i64 x] W fun e w' => ∃ va vn vc, e = .returned (.agg #[.bool true, .bool bR, .slice va vn vc]) ∧ KL w' (.slice va vn vc) A0 ∧ Below W.heap.size W w') := Lib.hid (fun x W hx h => by
    subst hx
    rw [hA0]
    exact hPart W 0 at' h (Nat.zero_le _) (by rw [← htn]; exact hat1))
  have HW2 := Lib.hid hw2
  have hin : -9223372036854775808 ≤ n ∧ n ≤ 9223372036854775807 := hn
  obtain ⟨c0, c1, c2, c3, c4, c5⟩ := srow6 r1
  have HAT1 : Hid (n < 0 → max ((tn : Int) + n) 0 = (at' : Int)) := Lib.hid (fun h0 => by rw [hat, if_pos h0]; omega)
  have HAT2 : Hid (¬ n < 0 → min n (tn : Int) = (at' : Int)) := Lib.hid (fun h0 => by rw [hat, if_neg h0]; omega)
  have HTN : Hid (n < 0 → tkL n bN = A1 ∧ otL n bN = A0) := Lib.hid (fun h0 => by
    rw [tkL_neg _ h0, otL_neg _ h0, hA1', hA0', hat, if_pos h0, htn]
    exact ⟨rfl, rfl⟩)
  have HTP : Hid (¬ n < 0 → tkL n bN = A0 ∧ otL n bN = A1) := Lib.hid (fun h0 => by
    rw [tkL_pos _ (by omega), otL_pos _ (by omega), hA1', hA0', hat, if_neg h0, htn]
    rcases Nat.le_total n.toNat bN.length with h | h
    · rw [Nat.min_eq_left h]; exact ⟨rfl, rfl⟩
    · rw [Nat.min_eq_right h, List.take_of_length_le h, List.drop_eq_nil_of_le h, List.take_length, List.drop_length]; exact ⟨rfl, rfl⟩)
  clear hs ht hsn htn hw2 hb2 r1 r2 r3 hPart hA1 hA0 hA1' hA0' hat hn
  by_cases h0 : n < 0
  · have HT := Lib.hid (HTN.out h0)
    have hmx := HAT1.out h0
    by_cases h1 : (tn : Int) + n < 0
    · have HAT : Hid ((0 : Int) = (at' : Int)) := Lib.hid (by omega)
      clear hmx
      go_enter Tryz.func79, Tryz.ntmps79
      go_wp2_with fail
      rw [← HW2.out]
      refine (wpIn_wide (n := 9)).1 ?_
      refine wpIn_region_putI (by kernel_rfl) (by kernel_rfl) [7, 8] (fun z => if z = 8 then 6 else if z = 7 then 3 else 0) (fun z => if z = 8 then 6 else if z = 7 then 3 else 0) (fun j => keepK ([.val (.agg #[.bool aL, .bool aR, .slice sa sn sc, .bool bL, .bool bR, .slice ta tn tc]), .val (.int .i64 0), .val (.int .i64 (tn : Int)), .sl ((fun s => .agg #[.bool true, .bool bR, s])) (A1), .val (.agg #[.bool aL, .bool aR, .slice sa sn sc, .bool bL, .bool bR, .slice ta tn tc]), .val (.int .i64 0), .sl ((fun s => .agg #[.bool true, .bool bR, s])) (A0), .any, .any].getD j .any)) (by decide) (IB w [w.heap.size + 1, w.heap.size + 1 + 1] [(w.heap.size, 64, #[.bool aL, .bool aR, .slice sa sn sc, .bool bL, .bool bR, .slice ta tn tc])]) (fun i => PhS ([.val (.agg #[.bool aL, .bool aR, .slice sa sn sc, .bool bL, .bool bR, .slice ta tn tc]), .val (.int .i64 0), .val (.int .i64 (tn : Int)), .sl ((fun s => .agg #[.bool true, .bool bR, s])) (A1), .val (.agg #[.bool aL, .bool aR, .slice sa sn sc, .bool bL, .bool bR, .slice ta tn tc]), .val (.int .i64 0), .sl ((fun s => .agg #[.bool true, .bool bR, s])) (A0), .any, .any].getD i .any)) (fun z u v => StS (if z = 8 then .pointer (some ⟨w.heap.size + 1 + 1, 0, none⟩) else if z = 7 then .pointer (some ⟨w.heap.size + 1, 0, none⟩) else .nilFunc) v) (fun W W' hb h => h.below hb) (fun i v W W' hb h => PhS.below hb h) (fun i u v W W' hb h => StS.below hb h) (HIB.out.below (Below.refl _ _).drew) ?_ ?_ ?_
      · intro i oo listed a' W val ho hi hnz haf hS hIW hF
        have hi' : i < 9 := hi
        obtain rfl | rfl | rfl | rfl | rfl | rfl | rfl | rfl | rfl : i = 0 ∨ i = 1 ∨ i = 2 ∨ i = 3 ∨ i = 4 ∨ i = 5 ∨ i = 6 ∨ i = 7 ∨ i = 8 := by omega
        · cases ho
          refine opG_plain rfl rfl ?_
          have q2 : a'.tmps[2]? = some (.pointer (some ⟨w.heap.size, 0, none⟩)) := (hS.tmpBase 2 (by kernel_rfl)).trans rfl
          have hr := hIW.2.2 _ (List.mem_of_getElem? (i := 0) rfl)
          obtain ⟨z0, z1, z2, z3, z4, z5⟩ := srow6 hr
          refine op_valv (.agg #[.bool aL, .bool aR, .slice sa sn sc, .bool bL, .bool bR, .slice ta tn tc]) W (fun _ _ => trivial) ?_ ⟨Below.refl _ _, rfl⟩
          rw [Oper.semAt_plain _ _ _ (by intro c h; cases h)]
          simp [execOp, q2, z0, z1, z2, z3, z4, z5, go_sem]
        · cases ho
          refine opG_plain rfl rfl ?_
          have q7 : a'.tmps[7]? = some (.int .i64 0) := (hS.tmpBase 7 (by kernel_rfl)).trans rfl
          refine op_valv (.int .i64 0) W (fun _ _ => trivial) ?_ ⟨Below.refl _ _, rfl⟩
          rw [Oper.semAt_plain _ _ _ (by intro c h; cases h)]
          simp [execOp, q7, go_sem]
        · cases ho
          refine opG_plain rfl rfl ?_
          have q6 : a'.tmps[6]? = some (.int .i64 (tn : Int)) := (hS.tmpBase 6 (by kernel_rfl)).trans rfl
          refine op_valv (.int .i64 (tn : Int)) W (fun _ _ => trivial) ?_ ⟨Below.refl _ _, rfl⟩
          rw [Oper.semAt_plain _ _ _ (by intro c h; cases h)]
          simp [execOp, q6, go_sem]
        · cases ho
          refine opG_plain rfl rfl ?_
          have l0 : listed.getD 0 false = true := haf ⟨0, .data⟩ (Array.mem_of_getElem? (i := 0) rfl) rfl
          have q19 : a'.tmps[19]? = some (val 0) := hS.tmpSet 0 _ 19 rfl rfl (by simp) l0
          have h0 : PhS (.val (.agg #[.bool aL, .bool aR, .slice sa sn sc, .bool bL, .bool bR, .slice ta tn tc])) (val 0) W := hF 0 l0 rfl
          rw [show val 0 = .agg #[.bool aL, .bool aR, .slice sa sn sc, .bool bL, .bool bR, .slice ta tn tc] from h0] at q19
          have l1 : listed.getD 1 false = true := haf ⟨1, .data⟩ (Array.mem_of_getElem? (i := 1) rfl) rfl
          have q20 : a'.tmps[20]? = some (val 1) := hS.tmpSet 1 _ 20 rfl rfl (by simp) l1
          have h1 : PhS (.val (.int .i64 0)) (val 1) W := hF 1 l1 rfl
          rw [show val 1 = .int .i64 0 from h1] at q20
          have l2 : listed.getD 2 false = true := haf ⟨2, .data⟩ (Array.mem_of_getElem? (i := 2) rfl) rfl
          have q21 : a'.tmps[21]? = some (val 2) := hS.tmpSet 2 _ 21 rfl rfl (by simp) l2
          have h2 : PhS (.val (.int .i64 (tn : Int))) (val 2) W := hF 2 l2 rfl
          rw [show val 2 = .int .i64 (tn : Int) from h2] at q21
          refine op_callv 92 #[.agg #[.bool aL, .bool aR, .slice sa sn sc, .bool bL, .bool bR, .slice ta tn tc], .int .i64 0, .int .i64 (tn : Int)] (fun _ _ => trivial) ?_ (by omega) ((callsIn_wide.2 (HC1.out _ W HAT.out hIW.1)).mono ?_)
          · rw [Oper.semAt_plain _ _ _ (by intro c h; cases h)]
            simp [execOp, q19, q20, q21, go_sem]
          · rintro e W2 ⟨va, vn, vc, rfl, hk, hb⟩
            exact ⟨_, rfl, hb, va, vn, vc, rfl, hk⟩
        · cases ho
          refine opG_plain rfl rfl ?_
          have q2 : a'.tmps[2]? = some (.pointer (some ⟨w.heap.size, 0, none⟩)) := (hS.tmpBase 2 (by kernel_rfl)).trans rfl
          have hr := hIW.2.2 _ (List.mem_of_getElem? (i := 0) rfl)
          obtain ⟨z0, z1, z2, z3, z4, z5⟩ := srow6 hr
          refine op_valv (.agg #[.bool aL, .bool aR, .slice sa sn sc, .bool bL, .bool bR, .slice ta tn tc]) W (fun _ _ => trivial) ?_ ⟨Below.refl _ _, rfl⟩
          rw [Oper.semAt_plain _ _ _ (by intro c h; cases h)]
          simp [execOp, q2, z0, z1, z2, z3, z4, z5, go_sem]
        · cases ho
          refine opG_plain rfl rfl ?_
          have q7 : a'.tmps[7]? = some (.int .i64 0) := (hS.tmpBase 7 (by kernel_rfl)).trans rfl
          refine op_valv (.int .i64 0) W (fun _ _ => trivial) ?_ ⟨Below.refl _ _, rfl⟩
          rw [Oper.semAt_plain _ _ _ (by intro c h; cases h)]
          simp [execOp, q7, go_sem]
        · cases ho
          refine opG_plain rfl rfl ?_
          have l4 : listed.getD 4 false = true := haf ⟨4, .data⟩ (Array.mem_of_getElem? (i := 0) rfl) rfl
          have q23 : a'.tmps[23]? = some (val 4) := hS.tmpSet 4 _ 23 rfl rfl (by simp) l4
          have h4 : PhS (.val (.agg #[.bool aL, .bool aR, .slice sa sn sc, .bool bL, .bool bR, .slice ta tn tc])) (val 4) W := hF 4 l4 rfl
          rw [show val 4 = .agg #[.bool aL, .bool aR, .slice sa sn sc, .bool bL, .bool bR, .slice ta tn tc] from h4] at q23
          have l5 : listed.getD 5 false = true := haf ⟨5, .data⟩ (Array.mem_of_getElem? (i := 1) rfl) rfl
          have q24 : a'.tmps[24]? = some (val 5) := hS.tmpSet 5 _ 24 rfl rfl (by simp) l5
          have h5 : PhS (.val (.int .i64 0)) (val 5) W := hF 5 l5 rfl
          rw [show val 5 = .int .i64 0 from h5] at q24
          refine op_callv 92 #[.agg #[.bool aL, .bool aR, .slice sa sn sc, .bool bL, .bool bR, .slice ta tn tc], .int .i64 0, .int .i64 0] (fun _ _ => trivial) ?_ (by omega) ((callsIn_wide.2 (HC0.out _ W HAT.out hIW.1)).mono ?_)
          · rw [Oper.semAt_plain _ _ _ (by intro c h; cases h)]
            simp [execOp, q23, q24, go_sem]
          · rintro e W2 ⟨va, vn, vc, rfl, hk, hb⟩
            exact ⟨_, rfl, hb, va, vn, vc, rfl, hk⟩
        · exact absurd (by decide) hnz
        · exact absurd (by decide) hnz
      · intro z oo listed a' W val hz ho haf hS hIW hF hO
        have hz' : z = 7 ∨ z = 8 := by simpa using hz
        obtain rfl | rfl := hz'
        · cases ho
          refine opG_plain rfl rfl ?_
          have q4 : a'.tmps[4]? = some (.pointer (some ⟨w.heap.size + 1, 0, none⟩)) := (hS.tmpBase 4 (by kernel_rfl)).trans rfl
          have l3 : listed.getD 3 false = true := haf ⟨3, .data⟩ (Array.mem_of_getElem? (i := 0) rfl) rfl
          have q22 : a'.tmps[22]? = some (val 3) := hS.tmpSet 3 _ 22 rfl rfl (by simp) l3
          have h3 : PhS (.sl ((fun s => .agg #[.bool true, .bool bR, s])) (A1)) (val 3) W := hF 3 l3 rfl
          obtain ⟨va3, vn3, vc3, e3, hk3⟩ := h3
          rw [e3] at q22
          obtain ⟨hle, hbx⟩ := hIW.2.1 (w.heap.size + 1) (by simp)
          have hbx' := hbx
          obtain ⟨x', y', a0', n', c', hr⟩ := hbx'
          obtain ⟨d0, d1, d2, f0, f1, f2⟩ := srow3 hr
          refine op_skipv (set3 W (w.heap.size + 1) (.bool true) (.bool bR) (.slice va3 vn3 vc3)) (fun _ _ => trivial) ?_ ⟨IB.put hIW hle hbx (fun r hr => by simp only [List.mem_cons, List.not_mem_nil, or_false] at hr; rcases hr with rfl <;> (dsimp only; omega)) _ _ _ _ _, trivial, fun j hj hk => PhS.put hbx _ _ _ hk (hF j hj hk), (show StS (.pointer (some ⟨w.heap.size + 1, 0, none⟩)) (val 3) _ from by rw [e3]; exact StS.of hbx _ _ _), fun y hy hly hne => by
              have hy' : y = 7 ∨ y = 8 := by simpa using hy
              obtain rfl | rfl := hy'
              · exact absurd rfl hne
              · exact StS.other (hO 8 hy hly hne) (by omega) _ _ _⟩
          rw [Oper.semAt_plain _ _ _ (by intro c h; cases h)]
          simp [execOp, q4, q22, d0, d1, d2, f0, f1, f2, go_sem]
        · cases ho
          refine opG_plain rfl rfl ?_
          have q5 : a'.tmps[5]? = some (.pointer (some ⟨w.heap.size + 1 + 1, 0, none⟩)) := (hS.tmpBase 5 (by kernel_rfl)).trans rfl
          have l6 : listed.getD 6 false = true := haf ⟨6, .data⟩ (Array.mem_of_getElem? (i := 0) rfl) rfl
          have q25 : a'.tmps[25]? = some (val 6) := hS.tmpSet 6 _ 25 rfl rfl (by simp) l6
          have h6 : PhS (.sl ((fun s => .agg #[.bool true, .bool bR, s])) (A0)) (val 6) W := hF 6 l6 rfl
          obtain ⟨va6, vn6, vc6, e6, hk6⟩ := h6
          rw [e6] at q25
          obtain ⟨hle, hbx⟩ := hIW.2.1 (w.heap.size + 1 + 1) (by simp)
          have hbx' := hbx
          obtain ⟨x', y', a0', n', c', hr⟩ := hbx'
          obtain ⟨d0, d1, d2, f0, f1, f2⟩ := srow3 hr
          refine op_skipv (set3 W (w.heap.size + 1 + 1) (.bool true) (.bool bR) (.slice va6 vn6 vc6)) (fun _ _ => trivial) ?_ ⟨IB.put hIW hle hbx (fun r hr => by simp only [List.mem_cons, List.not_mem_nil, or_false] at hr; rcases hr with rfl <;> (dsimp only; omega)) _ _ _ _ _, trivial, fun j hj hk => PhS.put hbx _ _ _ hk (hF j hj hk), (show StS (.pointer (some ⟨w.heap.size + 1 + 1, 0, none⟩)) (val 6) _ from by rw [e6]; exact StS.of hbx _ _ _), fun y hy hly hne => by
              have hy' : y = 7 ∨ y = 8 := by simpa using hy
              obtain rfl | rfl := hy'
              · exact StS.other (hO 7 hy hly hne) (by omega) _ _ _
              · exact absurd rfl hne⟩
          rw [Oper.semAt_plain _ _ _ (by intro c h; cases h)]
          simp [execOp, q5, q25, d0, d1, d2, f0, f1, f2, go_sem]
      · intro W9 val hIW hF hST
        have e0 : val 0 = .agg #[.bool aL, .bool aR, .slice sa sn sc, .bool bL, .bool bR, .slice ta tn tc] := hF 0 (by decide) rfl
        have e1 : val 1 = .int .i64 0 := hF 1 (by decide) rfl
        have e2 : val 2 = .int .i64 (tn : Int) := hF 2 (by decide) rfl
        obtain ⟨va3, vn3, vc3, e3, hk3⟩ : PhS (.sl ((fun s => .agg #[.bool true, .bool bR, s])) (A1)) (val 3) W9 := hF 3 (by decide) rfl
        have e4 : val 4 = .agg #[.bool aL, .bool aR, .slice sa sn sc, .bool bL, .bool bR, .slice ta tn tc] := hF 4 (by decide) rfl
        have e5 : val 5 = .int .i64 0 := hF 5 (by decide) rfl
        obtain ⟨va6, vn6, vc6, e6, hk6⟩ : PhS (.sl ((fun s => .agg #[.bool true, .bool bR, s])) (A0)) (val 6) W9 := hF 6 (by decide) rfl
        have hst7 := (show StS (.pointer (some ⟨w.heap.size + 1, 0, none⟩)) (val 3) W9 from hST 7 (by simp)) _ _ _ _ rfl e3
        have hst8 := (show StS (.pointer (some ⟨w.heap.size + 1 + 1, 0, none⟩)) (val 6) W9 from hST 8 (by simp)) _ _ _ _ rfl e6
        simp only [finAct, List.getElem?_toArray, List.getElem?_cons_zero, List.getElem?_cons_succ, Act.put, List.setIfInBounds_toArray, List.set_cons_zero, List.set_cons_succ, List.size_toArray, List.length_cons, List.length_nil, Nat.reduceAdd]
        simp only [e0, e1, e2, e3, e4, e5, e6]
        obtain ⟨m0, m1, m2, -, -, -⟩ := srow3 hst7
        obtain ⟨p0, p1, p2, -, -, -⟩ := srow3 hst8
        have hbw := hIW.1
        clear hF hST hst7 hst8 hIW
        go_wp2
        refine bodyPost_ret (v := .tuple #[.agg #[.bool true, .bool bR, .slice va3 vn3 vc3], .agg #[.bool true, .bool bR, .slice va6 vn6 vc6]]) (by simp [results, Tryz.f79, go_sem, m0, m1, m2, p0, p1, p2]) rfl ⟨_, _, _, _, _, _, rfl, by rw [HT.out.1]; exact hk3, by rw [HT.out.2]; exact hk6, hbw⟩
    · have HAT : Hid ((tn : Int) + n = (at' : Int)) := Lib.hid (by omega)
      have h2 : 0 ≤ (tn : Int) + n := by omega
      clear hmx
      go_enter Tryz.func79, Tryz.ntmps79
      go_wp2_with fail
      rw [← HW2.out]
      refine (wpIn_wide (n := 9)).1 ?_
      refine wpIn_region_putI (by kernel_rfl) (by kernel_rfl) [7, 8] (fun z => if z = 8 then 6 else if z = 7 then 3 else 0) (fun z => if z = 8 then 6 else if z = 7 then 3 else 0) (fun j => keepK ([.val (.agg #[.bool aL, .bool aR, .slice sa sn sc, .bool bL, .bool bR, .slice ta tn tc]), .val (.int .i64 ((tn : Int) + n)), .val (.int .i64 (tn : Int)), .sl ((fun s => .agg #[.bool true, .bool bR, s])) (A1), .val (.agg #[.bool aL, .bool aR, .slice sa sn sc, .bool bL, .bool bR, .slice ta tn tc]), .val (.int .i64 ((tn : Int) + n)), .sl ((fun s => .agg #[.bool true, .bool bR, s])) (A0), .any, .any].getD j .any)) (by decide) (IB w [w.heap.size + 1, w.heap.size + 1 + 1] [(w.heap.size, 64, #[.bool aL, .bool aR, .slice sa sn sc, .bool bL, .bool bR, .slice ta tn tc])]) (fun i => PhS ([.val (.agg #[.bool aL, .bool aR, .slice sa sn sc, .bool bL, .bool bR, .slice ta tn tc]), .val (.int .i64 ((tn : Int) + n)), .val (.int .i64 (tn : Int)), .sl ((fun s => .agg #[.bool true, .bool bR, s])) (A1), .val (.agg #[.bool aL, .bool aR, .slice sa sn sc, .bool bL, .bool bR, .slice ta tn tc]), .val (.int .i64 ((tn : Int) + n)), .sl ((fun s => .agg #[.bool true, .bool bR, s])) (A0), .any, .any].getD i .any)) (fun z u v => StS (if z = 8 then .pointer (some ⟨w.heap.size + 1 + 1, 0, none⟩) else if z = 7 then .pointer (some ⟨w.heap.size + 1, 0, none⟩) else .nilFunc) v) (fun W W' hb h => h.below hb) (fun i v W W' hb h => PhS.below hb h) (fun i u v W W' hb h => StS.below hb h) (HIB.out.below (Below.refl _ _).drew) ?_ ?_ ?_
      · intro i oo listed a' W val ho hi hnz haf hS hIW hF
        have hi' : i < 9 := hi
        obtain rfl | rfl | rfl | rfl | rfl | rfl | rfl | rfl | rfl : i = 0 ∨ i = 1 ∨ i = 2 ∨ i = 3 ∨ i = 4 ∨ i = 5 ∨ i = 6 ∨ i = 7 ∨ i = 8 := by omega
        · cases ho
          refine opG_plain rfl rfl ?_
          have q2 : a'.tmps[2]? = some (.pointer (some ⟨w.heap.size, 0, none⟩)) := (hS.tmpBase 2 (by kernel_rfl)).trans rfl
          have hr := hIW.2.2 _ (List.mem_of_getElem? (i := 0) rfl)
          obtain ⟨z0, z1, z2, z3, z4, z5⟩ := srow6 hr
          refine op_valv (.agg #[.bool aL, .bool aR, .slice sa sn sc, .bool bL, .bool bR, .slice ta tn tc]) W (fun _ _ => trivial) ?_ ⟨Below.refl _ _, rfl⟩
          rw [Oper.semAt_plain _ _ _ (by intro c h; cases h)]
          simp [execOp, q2, z0, z1, z2, z3, z4, z5, go_sem]
        · cases ho
          refine opG_plain rfl rfl ?_
          have q7 : a'.tmps[7]? = some (.int .i64 ((tn : Int) + n)) := (hS.tmpBase 7 (by kernel_rfl)).trans rfl
          refine op_valv (.int .i64 ((tn : Int) + n)) W (fun _ _ => trivial) ?_ ⟨Below.refl _ _, rfl⟩
          rw [Oper.semAt_plain _ _ _ (by intro c h; cases h)]
          simp [execOp, q7, go_sem]
        · cases ho
          refine opG_plain rfl rfl ?_
          have q6 : a'.tmps[6]? = some (.int .i64 (tn : Int)) := (hS.tmpBase 6 (by kernel_rfl)).trans rfl
          refine op_valv (.int .i64 (tn : Int)) W (fun _ _ => trivial) ?_ ⟨Below.refl _ _, rfl⟩
          rw [Oper.semAt_plain _ _ _ (by intro c h; cases h)]
          simp [execOp, q6, go_sem]
        · cases ho
          refine opG_plain rfl rfl ?_
          have l0 : listed.getD 0 false = true := haf ⟨0, .data⟩ (Array.mem_of_getElem? (i := 0) rfl) rfl
          have q19 : a'.tmps[19]? = some (val 0) := hS.tmpSet 0 _ 19 rfl rfl (by simp) l0
          have h0 : PhS (.val (.agg #[.bool aL, .bool aR, .slice sa sn sc, .bool bL, .bool bR, .slice ta tn tc])) (val 0) W := hF 0 l0 rfl
          rw [show val 0 = .agg #[.bool aL, .bool aR, .slice sa sn sc, .bool bL, .bool bR, .slice ta tn tc] from h0] at q19
          have l1 : listed.getD 1 false = true := haf ⟨1, .data⟩ (Array.mem_of_getElem? (i := 1) rfl) rfl
          have q20 : a'.tmps[20]? = some (val 1) := hS.tmpSet 1 _ 20 rfl rfl (by simp) l1
          have h1 : PhS (.val (.int .i64 ((tn : Int) + n))) (val 1) W := hF 1 l1 rfl
          rw [show val 1 = .int .i64 ((tn : Int) + n) from h1] at q20
          have l2 : listed.getD 2 false = true := haf ⟨2, .data⟩ (Array.mem_of_getElem? (i := 2) rfl) rfl
          have q21 : a'.tmps[21]? = some (val 2) := hS.tmpSet 2 _ 21 rfl rfl (by simp) l2
          have h2 : PhS (.val (.int .i64 (tn : Int))) (val 2) W := hF 2 l2 rfl
          rw [show val 2 = .int .i64 (tn : Int) from h2] at q21
          refine op_callv 92 #[.agg #[.bool aL, .bool aR, .slice sa sn sc, .bool bL, .bool bR, .slice ta tn tc], .int .i64 ((tn : Int) + n), .int .i64 (tn : Int)] (fun _ _ => trivial) ?_ (by omega) ((callsIn_wide.2 (HC1.out _ W HAT.out hIW.1)).mono ?_)
          · rw [Oper.semAt_plain _ _ _ (by intro c h; cases h)]
            simp [execOp, q19, q20, q21, go_sem]
          · rintro e W2 ⟨va, vn, vc, rfl, hk, hb⟩
            exact ⟨_, rfl, hb, va, vn, vc, rfl, hk⟩
        · cases ho
          refine opG_plain rfl rfl ?_
          have q2 : a'.tmps[2]? = some (.pointer (some ⟨w.heap.size, 0, none⟩)) := (hS.tmpBase 2 (by kernel_rfl)).trans rfl
          have hr := hIW.2.2 _ (List.mem_of_getElem? (i := 0) rfl)
          obtain ⟨z0, z1, z2, z3, z4, z5⟩ := srow6 hr
          refine op_valv (.agg #[.bool aL, .bool aR, .slice sa sn sc, .bool bL, .bool bR, .slice ta tn tc]) W (fun _ _ => trivial) ?_ ⟨Below.refl _ _, rfl⟩
          rw [Oper.semAt_plain _ _ _ (by intro c h; cases h)]
          simp [execOp, q2, z0, z1, z2, z3, z4, z5, go_sem]
        · cases ho
          refine opG_plain rfl rfl ?_
          have q7 : a'.tmps[7]? = some (.int .i64 ((tn : Int) + n)) := (hS.tmpBase 7 (by kernel_rfl)).trans rfl
          refine op_valv (.int .i64 ((tn : Int) + n)) W (fun _ _ => trivial) ?_ ⟨Below.refl _ _, rfl⟩
          rw [Oper.semAt_plain _ _ _ (by intro c h; cases h)]
          simp [execOp, q7, go_sem]
        · cases ho
          refine opG_plain rfl rfl ?_
          have l4 : listed.getD 4 false = true := haf ⟨4, .data⟩ (Array.mem_of_getElem? (i := 0) rfl) rfl
          have q23 : a'.tmps[23]? = some (val 4) := hS.tmpSet 4 _ 23 rfl rfl (by simp) l4
          have h4 : PhS (.val (.agg #[.bool aL, .bool aR, .slice sa sn sc, .bool bL, .bool bR, .slice ta tn tc])) (val 4) W := hF 4 l4 rfl
          rw [show val 4 = .agg #[.bool aL, .bool aR, .slice sa sn sc, .bool bL, .bool bR, .slice ta tn tc] from h4] at q23
          have l5 : listed.getD 5 false = true := haf ⟨5, .data⟩ (Array.mem_of_getElem? (i := 1) rfl) rfl
          have q24 : a'.tmps[24]? = some (val 5) := hS.tmpSet 5 _ 24 rfl rfl (by simp) l5
          have h5 : PhS (.val (.int .i64 ((tn : Int) + n))) (val 5) W := hF 5 l5 rfl
          rw [show val 5 = .int .i64 ((tn : Int) + n) from h5] at q24
          refine op_callv 92 #[.agg #[.bool aL, .bool aR, .slice sa sn sc, .bool bL, .bool bR, .slice ta tn tc], .int .i64 0, .int .i64 ((tn : Int) + n)] (fun _ _ => trivial) ?_ (by omega) ((callsIn_wide.2 (HC0.out _ W HAT.out hIW.1)).mono ?_)
          · rw [Oper.semAt_plain _ _ _ (by intro c h; cases h)]
            simp [execOp, q23, q24, go_sem]
          · rintro e W2 ⟨va, vn, vc, rfl, hk, hb⟩
            exact ⟨_, rfl, hb, va, vn, vc, rfl, hk⟩
        · exact absurd (by decide) hnz
        · exact absurd (by decide) hnz
      · intro z oo listed a' W val hz ho haf hS hIW hF hO
        have hz' : z = 7 ∨ z = 8 := by simpa using hz
        obtain rfl | rfl := hz'
        · cases ho
          refine opG_plain rfl rfl ?_
          have q4 : a'.tmps[4]? = some (.pointer (some ⟨w.heap.size + 1, 0, none⟩)) := (hS.tmpBase 4 (by kernel_rfl)).trans rfl
          have l3 : listed.getD 3 false = true := haf ⟨3, .data⟩ (Array.mem_of_getElem? (i := 0) rfl) rfl
          have q22 : a'.tmps[22]? = some (val 3) := hS.tmpSet 3 _ 22 rfl rfl (by simp) l3
          have h3 : PhS (.sl ((fun s => .agg #[.bool true, .bool bR, s])) (A1)) (val 3) W := hF 3 l3 rfl
          obtain ⟨va3, vn3, vc3, e3, hk3⟩ := h3
          rw [e3] at q22
          obtain ⟨hle, hbx⟩ := hIW.2.1 (w.heap.size + 1) (by simp)
          have hbx' := hbx
          obtain ⟨x', y', a0', n', c', hr⟩ := hbx'
          obtain ⟨d0, d1, d2, f0, f1, f2⟩ := srow3 hr
          refine op_skipv (set3 W (w.heap.size + 1) (.bool true) (.bool bR) (.slice va3 vn3 vc3)) (fun _ _ => trivial) ?_ ⟨IB.put hIW hle hbx (fun r hr => by simp only [List.mem_cons, List.not_mem_nil, or_false] at hr; rcases hr with rfl <;> (dsimp only; omega)) _ _ _ _ _, trivial, fun j hj hk => PhS.put hbx _ _ _ hk (hF j hj hk), (show StS (.pointer (some ⟨w.heap.size + 1, 0, none⟩)) (val 3) _ from by rw [e3]; exact StS.of hbx _ _ _), fun y hy hly hne => by
              have hy' : y = 7 ∨ y = 8 := by simpa using hy
              obtain rfl | rfl := hy'
              · exact absurd rfl hne
              · exact StS.other (hO 8 hy hly hne) (by omega) _ _ _⟩
          rw [Oper.semAt_plain _ _ _ (by intro c h; cases h)]
          simp [execOp, q4, q22, d0, d1, d2, f0, f1, f2, go_sem]
        · cases ho
          refine opG_plain rfl rfl ?_
          have q5 : a'.tmps[5]? = some (.pointer (some ⟨w.heap.size + 1 + 1, 0, none⟩)) := (hS.tmpBase 5 (by kernel_rfl)).trans rfl
          have l6 : listed.getD 6 false = true := haf ⟨6, .data⟩ (Array.mem_of_getElem? (i := 0) rfl) rfl
          have q25 : a'.tmps[25]? = some (val 6) := hS.tmpSet 6 _ 25 rfl rfl (by simp) l6
          have h6 : PhS (.sl ((fun s => .agg #[.bool true, .bool bR, s])) (A0)) (val 6) W := hF 6 l6 rfl
          obtain ⟨va6, vn6, vc6, e6, hk6⟩ := h6
          rw [e6] at q25
          obtain ⟨hle, hbx⟩ := hIW.2.1 (w.heap.size + 1 + 1) (by simp)
          have hbx' := hbx
          obtain ⟨x', y', a0', n', c', hr⟩ := hbx'
          obtain ⟨d0, d1, d2, f0, f1, f2⟩ := srow3 hr
          refine op_skipv (set3 W (w.heap.size + 1 + 1) (.bool true) (.bool bR) (.slice va6 vn6 vc6)) (fun _ _ => trivial) ?_ ⟨IB.put hIW hle hbx (fun r hr => by simp only [List.mem_cons, List.not_mem_nil, or_false] at hr; rcases hr with rfl <;> (dsimp only; omega)) _ _ _ _ _, trivial, fun j hj hk => PhS.put hbx _ _ _ hk (hF j hj hk), (show StS (.pointer (some ⟨w.heap.size + 1 + 1, 0, none⟩)) (val 6) _ from by rw [e6]; exact StS.of hbx _ _ _), fun y hy hly hne => by
              have hy' : y = 7 ∨ y = 8 := by simpa using hy
              obtain rfl | rfl := hy'
              · exact StS.other (hO 7 hy hly hne) (by omega) _ _ _
              · exact absurd rfl hne⟩
          rw [Oper.semAt_plain _ _ _ (by intro c h; cases h)]
          simp [execOp, q5, q25, d0, d1, d2, f0, f1, f2, go_sem]
      · intro W9 val hIW hF hST
        have e0 : val 0 = .agg #[.bool aL, .bool aR, .slice sa sn sc, .bool bL, .bool bR, .slice ta tn tc] := hF 0 (by decide) rfl
        have e1 : val 1 = .int .i64 ((tn : Int) + n) := hF 1 (by decide) rfl
        have e2 : val 2 = .int .i64 (tn : Int) := hF 2 (by decide) rfl
        obtain ⟨va3, vn3, vc3, e3, hk3⟩ : PhS (.sl ((fun s => .agg #[.bool true, .bool bR, s])) (A1)) (val 3) W9 := hF 3 (by decide) rfl
        have e4 : val 4 = .agg #[.bool aL, .bool aR, .slice sa sn sc, .bool bL, .bool bR, .slice ta tn tc] := hF 4 (by decide) rfl
        have e5 : val 5 = .int .i64 ((tn : Int) + n) := hF 5 (by decide) rfl
        obtain ⟨va6, vn6, vc6, e6, hk6⟩ : PhS (.sl ((fun s => .agg #[.bool true, .bool bR, s])) (A0)) (val 6) W9 := hF 6 (by decide) rfl
        have hst7 := (show StS (.pointer (some ⟨w.heap.size + 1, 0, none⟩)) (val 3) W9 from hST 7 (by simp)) _ _ _ _ rfl e3
        have hst8 := (show StS (.pointer (some ⟨w.heap.size + 1 + 1, 0, none⟩)) (val 6) W9 from hST 8 (by simp)) _ _ _ _ rfl e6
        simp only [finAct, List.getElem?_toArray, List.getElem?_cons_zero, List.getElem?_cons_succ, Act.put, List.setIfInBounds_toArray, List.set_cons_zero, List.set_cons_succ, List.size_toArray, List.length_cons, List.length_nil, Nat.reduceAdd]
        simp only [e0, e1, e2, e3, e4, e5, e6]
        obtain ⟨m0, m1, m2, -, -, -⟩ := srow3 hst7
        obtain ⟨p0, p1, p2, -, -, -⟩ := srow3 hst8
        have hbw := hIW.1
        clear hF hST hst7 hst8 hIW
        go_wp2
        refine bodyPost_ret (v := .tuple #[.agg #[.bool true, .bool bR, .slice va3 vn3 vc3], .agg #[.bool true, .bool bR, .slice va6 vn6 vc6]]) (by simp [results, Tryz.f79, go_sem, m0, m1, m2, p0, p1, p2]) rfl ⟨_, _, _, _, _, _, rfl, by rw [HT.out.1]; exact hk3, by rw [HT.out.2]; exact hk6, hbw⟩
  · have HT := Lib.hid (HTP.out h0)
    have hmx := HAT2.out h0
    by_cases h1 : n ≤ (tn : Int)
    · have HAT : Hid (n = (at' : Int)) := Lib.hid (by omega)
      clear hmx
      go_enter Tryz.func79, Tryz.ntmps79
      go_wp2_with fail
      rw [← HW2.out]
      refine (wpIn_wide (n := 9)).1 ?_
      refine wpIn_region_putI (by kernel_rfl) (by kernel_rfl) [7, 8] (fun z => if z = 8 then 6 else if z = 7 then 2 else 0) (fun z => if z = 8 then 6 else if z = 7 then 2 else 0) (fun j => keepK ([.val (.agg #[.bool aL, .bool aR, .slice sa sn sc, .bool bL, .bool bR, .slice ta tn tc]), .val (.int .i64 n), .sl ((fun s => .agg #[.bool true, .bool bR, s])) (A0), .val (.agg #[.bool aL, .bool aR, .slice sa sn sc, .bool bL, .bool bR, .slice ta tn tc]), .val (.int .i64 n), .val (.int .i64 (tn : Int)), .sl ((fun s => .agg #[.bool true, .bool bR, s])) (A1), .any, .any].getD j .any)) (by decide) (IB w [w.heap.size + 1, w.heap.size + 1 + 1] [(w.heap.size, 64, #[.bool aL, .bool aR, .slice sa sn sc, .bool bL, .bool bR, .slice ta tn tc])]) (fun i => PhS ([.val (.agg #[.bool aL, .bool aR, .slice sa sn sc, .bool bL, .bool bR, .slice ta tn tc]), .val (.int .i64 n), .sl ((fun s => .agg #[.bool true, .bool bR, s])) (A0), .val (.agg #[.bool aL, .bool aR, .slice sa sn sc, .bool bL, .bool bR, .slice ta tn tc]), .val (.int .i64 n), .val (.int .i64 (tn : Int)), .sl ((fun s => .agg #[.bool true, .bool bR, s])) (A1), .any, .any].getD i .any)) (fun z u v => StS (if z = 8 then .pointer (some ⟨w.heap.size + 1 + 1, 0, none⟩) else if z = 7 then .pointer (some ⟨w.heap.size + 1, 0, none⟩) else .nilFunc) v) (fun W W' hb h => h.below hb) (fun i v W W' hb h => PhS.below hb h) (fun i u v W W' hb h => StS.below hb h) (HIB.out.below (Below.refl _ _).drew) ?_ ?_ ?_
      · intro i oo listed a' W val ho hi hnz haf hS hIW hF
        have hi' : i < 9 := hi
        obtain rfl | rfl | rfl | rfl | rfl | rfl | rfl | rfl | rfl : i = 0 ∨ i = 1 ∨ i = 2 ∨ i = 3 ∨ i = 4 ∨ i = 5 ∨ i = 6 ∨ i = 7 ∨ i = 8 := by omega
        · cases ho
          refine opG_plain rfl rfl ?_
          have q2 : a'.tmps[2]? = some (.pointer (some ⟨w.heap.size, 0, none⟩)) := (hS.tmpBase 2 (by kernel_rfl)).trans rfl
          have hr := hIW.2.2 _ (List.mem_of_getElem? (i := 0) rfl)
          obtain ⟨z0, z1, z2, z3, z4, z5⟩ := srow6 hr
          refine op_valv (.agg #[.bool aL, .bool aR, .slice sa sn sc, .bool bL, .bool bR, .slice ta tn tc]) W (fun _ _ => trivial) ?_ ⟨Below.refl _ _, rfl⟩
          rw [Oper.semAt_plain _ _ _ (by intro c h; cases h)]
          simp [execOp, q2, z0, z1, z2, z3, z4, z5, go_sem]
        · cases ho
          refine opG_plain rfl rfl ?_
          have q8 : a'.tmps[8]? = some (.int .i64 n) := (hS.tmpBase 8 (by kernel_rfl)).trans rfl
          refine op_valv (.int .i64 n) W (fun _ _ => trivial) ?_ ⟨Below.refl _ _, rfl⟩
          rw [Oper.semAt_plain _ _ _ (by intro c h; cases h)]
          simp [execOp, q8, go_sem]
        · cases ho
          refine opG_plain rfl rfl ?_
          have l0 : listed.getD 0 false = true := haf ⟨0, .data⟩ (Array.mem_of_getElem? (i := 0) rfl) rfl
          have q29 : a'.tmps[29]? = some (val 0) := hS.tmpSet 0 _ 29 rfl rfl (by simp) l0
          have h0 : PhS (.val (.agg #[.bool aL, .bool aR, .slice sa sn sc, .bool bL, .bool bR, .slice ta tn tc])) (val 0) W := hF 0 l0 rfl
          rw [show val 0 = .agg #[.bool aL, .bool aR, .slice sa sn sc, .bool bL, .bool bR, .slice ta tn tc] from h0] at q29
          have l1 : listed.getD 1 false = true := haf ⟨1, .data⟩ (Array.mem_of_getElem? (i := 1) rfl) rfl
          have q30 : a'.tmps[30]? = some (val 1) := hS.tmpSet 1 _ 30 rfl rfl (by simp) l1
          have h1 : PhS (.val (.int .i64 n)) (val 1) W := hF 1 l1 rfl
          rw [show val 1 = .int .i64 n from h1] at q30
          refine op_callv 92 #[.agg #[.bool aL, .bool aR, .slice sa sn sc, .bool bL, .bool bR, .slice ta tn tc], .int .i64 0, .int .i64 n] (fun _ _ => trivial) ?_ (by omega) ((callsIn_wide.2 (HC0.out _ W HAT.out hIW.1)).mono ?_)
          · rw [Oper.semAt_plain _ _ _ (by intro c h; cases h)]
            simp [execOp, q29, q30, go_sem]
          · rintro e W2 ⟨va, vn, vc, rfl, hk, hb⟩
            exact ⟨_, rfl, hb, va, vn, vc, rfl, hk⟩
        · cases ho
          refine opG_plain rfl rfl ?_
          have q2 : a'.tmps[2]? = some (.pointer (some ⟨w.heap.size, 0, none⟩)) := (hS.tmpBase 2 (by kernel_rfl)).trans rfl
          have hr := hIW.2.2 _ (List.mem_of_getElem? (i := 0) rfl)
          obtain ⟨z0, z1, z2, z3, z4, z5⟩ := srow6 hr
          refine op_valv (.agg #[.bool aL, .bool aR, .slice sa sn sc, .bool bL, .bool bR, .slice ta tn tc]) W (fun _ _ => trivial) ?_ ⟨Below.refl _ _, rfl⟩
          rw [Oper.semAt_plain _ _ _ (by intro c h; cases h)]
          simp [execOp, q2, z0, z1, z2, z3, z4, z5, go_sem]
        · cases ho
          refine opG_plain rfl rfl ?_
          have q8 : a'.tmps[8]? = some (.int .i64 n) := (hS.tmpBase 8 (by kernel_rfl)).trans rfl
          refine op_valv (.int .i64 n) W (fun _ _ => trivial) ?_ ⟨Below.refl _ _, rfl⟩
          rw [Oper.semAt_plain _ _ _ (by intro c h; cases h)]
          simp [execOp, q8, go_sem]
        · cases ho
          refine opG_plain rfl rfl ?_
          have q6 : a'.tmps[6]? = some (.int .i64 (tn : Int)) := (hS.tmpBase 6 (by kernel_rfl)).trans rfl
          refine op_valv (.int .i64 (tn : Int)) W (fun _ _ => trivial) ?_ ⟨Below.refl _ _, rfl⟩
          rw [Oper.semAt_plain _ _ _ (by intro c h; cases h)]
          simp [execOp, q6, go_sem]
        · cases ho
          refine opG_plain rfl rfl ?_
          have l3 : listed.getD 3 false = true := haf ⟨3, .data⟩ (Array.mem_of_getElem? (i := 0) rfl) rfl
          have q32 : a'.tmps[32]? = some (val 3) := hS.tmpSet 3 _ 32 rfl rfl (by simp) l3
          have h3 : PhS (.val (.agg #[.bool aL, .bool aR, .slice sa sn sc, .bool bL, .bool bR, .slice ta tn tc])) (val 3) W := hF 3 l3 rfl
          rw [show val 3 = .agg #[.bool aL, .bool aR, .slice sa sn sc, .bool bL, .bool bR, .slice ta tn tc] from h3] at q32
          have l4 : listed.getD 4 false = true := haf ⟨4, .data⟩ (Array.mem_of_getElem? (i := 1) rfl) rfl
          have q33 : a'.tmps[33]? = some (val 4) := hS.tmpSet 4 _ 33 rfl rfl (by simp) l4
          have h4 : PhS (.val (.int .i64 n)) (val 4) W := hF 4 l4 rfl
          rw [show val 4 = .int .i64 n from h4] at q33
          have l5 : listed.getD 5 false = true := haf ⟨5, .data⟩ (Array.mem_of_getElem? (i := 2) rfl) rfl
          have q34 : a'.tmps[34]? = some (val 5) := hS.tmpSet 5 _ 34 rfl rfl (by simp) l5
          have h5 : PhS (.val (.int .i64 (tn : Int))) (val 5) W := hF 5 l5 rfl
          rw [show val 5 = .int .i64 (tn : Int) from h5] at q34
          refine op_callv 92 #[.agg #[.bool aL, .bool aR, .slice sa sn sc, .bool bL, .bool bR, .slice ta tn tc], .int .i64 n, .int .i64 (tn : Int)] (fun _ _ => trivial) ?_ (by omega) ((callsIn_wide.2 (HC1.out _ W HAT.out hIW.1)).mono ?_)
          · rw [Oper.semAt_plain _ _ _ (by intro c h; cases h)]
            simp [execOp, q32, q33, q34, go_sem]
          · rintro e W2 ⟨va, vn, vc, rfl, hk, hb⟩
            exact ⟨_, rfl, hb, va, vn, vc, rfl, hk⟩
        · exact absurd (by decide) hnz
        · exact absurd (by decide) hnz
      · intro z oo listed a' W val hz ho haf hS hIW hF hO
        have hz' : z = 7 ∨ z = 8 := by simpa using hz
        obtain rfl | rfl := hz'
        · cases ho
          refine opG_plain rfl rfl ?_
          have q4 : a'.tmps[4]? = some (.pointer (some ⟨w.heap.size + 1, 0, none⟩)) := (hS.tmpBase 4 (by kernel_rfl)).trans rfl
          have l2 : listed.getD 2 false = true := haf ⟨2, .data⟩ (Array.mem_of_getElem? (i := 0) rfl) rfl
          have q31 : a'.tmps[31]? = some (val 2) := hS.tmpSet 2 _ 31 rfl rfl (by simp) l2
          have h2 : PhS (.sl ((fun s => .agg #[.bool true, .bool bR, s])) (A0)) (val 2) W := hF 2 l2 rfl
          obtain ⟨va2, vn2, vc2, e2, hk2⟩ := h2
          rw [e2] at q31
          obtain ⟨hle, hbx⟩ := hIW.2.1 (w.heap.size + 1) (by simp)
          have hbx' := hbx
          obtain ⟨x', y', a0', n', c', hr⟩ := hbx'
          obtain ⟨d0, d1, d2, f0, f1, f2⟩ := srow3 hr
          refine op_skipv (set3 W (w.heap.size + 1) (.bool true) (.bool bR) (.slice va2 vn2 vc2)) (fun _ _ => trivial) ?_ ⟨IB.put hIW hle hbx (fun r hr => by simp only [List.mem_cons, List.not_mem_nil, or_false] at hr; rcases hr with rfl <;> (dsimp only; omega)) _ _ _ _ _, trivial, fun j hj hk => PhS.put hbx _ _ _ hk (hF j hj hk), (show StS (.pointer (some ⟨w.heap.size + 1, 0, none⟩)) (val 2) _ from by rw [e2]; exact StS.of hbx _ _ _), fun y hy hly hne => by
              have hy' : y = 7 ∨ y = 8 := by simpa using hy
              obtain rfl | rfl := hy'
              · exact absurd rfl hne
              · exact StS.other (hO 8 hy hly hne) (by omega) _ _ _⟩
          rw [Oper.semAt_plain _ _ _ (by intro c h; cases h)]
          simp [execOp, q4, q31, d0, d1, d2, f0, f1, f2, go_sem]
        · cases ho
          refine opG_plain rfl rfl ?_
          have q5 : a'.tmps[5]? = some (.pointer (some ⟨w.heap.size + 1 + 1, 0, none⟩)) := (hS.tmpBase 5 (by kernel_rfl)).trans rfl
          have l6 : listed.getD 6 false = true := haf ⟨6, .data⟩ (Array.mem_of_getElem? (i := 0) rfl) rfl
          have q35 : a'.tmps[35]? = some (val 6) := hS.tmpSet 6 _ 35 rfl rfl (by simp) l6
          have h6 : PhS (.sl ((fun s => .agg #[.bool true, .bool bR, s])) (A1)) (val 6) W := hF 6 l6 rfl
          obtain ⟨va6, vn6, vc6, e6, hk6⟩ := h6
          rw [e6] at q35
          obtain ⟨hle, hbx⟩ := hIW.2.1 (w.heap.size + 1 + 1) (by simp)
          have hbx' := hbx
          obtain ⟨x', y', a0', n', c', hr⟩ := hbx'
          obtain ⟨d0, d1, d2, f0, f1, f2⟩ := srow3 hr
          refine op_skipv (set3 W (w.heap.size + 1 + 1) (.bool true) (.bool bR) (.slice va6 vn6 vc6)) (fun _ _ => trivial) ?_ ⟨IB.put hIW hle hbx (fun r hr => by simp only [List.mem_cons, List.not_mem_nil, or_false] at hr; rcases hr with rfl <;> (dsimp only; omega)) _ _ _ _ _, trivial, fun j hj hk => PhS.put hbx _ _ _ hk (hF j hj hk), (show StS (.pointer (some ⟨w.heap.size + 1 + 1, 0, none⟩)) (val 6) _ from by rw [e6]; exact StS.of hbx _ _ _), fun y hy hly hne => by
              have hy' : y = 7 ∨ y = 8 := by simpa using hy
              obtain rfl | rfl := hy'
              · exact StS.other (hO 7 hy hly hne) (by omega) _ _ _
              · exact absurd rfl hne⟩
          rw [Oper.semAt_plain _ _ _ (by intro c h; cases h)]
          simp [execOp, q5, q35, d0, d1, d2, f0, f1, f2, go_sem]
      · intro W9 val hIW hF hST
        have e0 : val 0 = .agg #[.bool aL, .bool aR, .slice sa sn sc, .bool bL, .bool bR, .slice ta tn tc] := hF 0 (by decide) rfl
        have e1 : val 1 = .int .i64 n := hF 1 (by decide) rfl
        obtain ⟨va2, vn2, vc2, e2, hk2⟩ : PhS (.sl ((fun s => .agg #[.bool true, .bool bR, s])) (A0)) (val 2) W9 := hF 2 (by decide) rfl
        have e3 : val 3 = .agg #[.bool aL, .bool aR, .slice sa sn sc, .bool bL, .bool bR, .slice ta tn tc] := hF 3 (by decide) rfl
        have e4 : val 4 = .int .i64 n := hF 4 (by decide) rfl
        have e5 : val 5 = .int .i64 (tn : Int) := hF 5 (by decide) rfl
        obtain ⟨va6, vn6, vc6, e6, hk6⟩ : PhS (.sl ((fun s => .agg #[.bool true, .bool bR, s])) (A1)) (val 6) W9 := hF 6 (by decide) rfl
        have hst7 := (show StS (.pointer (some ⟨w.heap.size + 1, 0, none⟩)) (val 2) W9 from hST 7 (by simp)) _ _ _ _ rfl e2
        have hst8 := (show StS (.pointer (some ⟨w.heap.size + 1 + 1, 0, none⟩)) (val 6) W9 from hST 8 (by simp)) _ _ _ _ rfl e6
        simp only [finAct, List.getElem?_toArray, List.getElem?_cons_zero, List.getElem?_cons_succ, Act.put, List.setIfInBounds_toArray, List.set_cons_zero, List.set_cons_succ, List.size_toArray, List.length_cons, List.length_nil, Nat.reduceAdd]
        simp only [e0, e1, e2, e3, e4, e5, e6]
        obtain ⟨m0, m1, m2, -, -, -⟩ := srow3 hst7
        obtain ⟨p0, p1, p2, -, -, -⟩ := srow3 hst8
        have hbw := hIW.1
        clear hF hST hst7 hst8 hIW
        go_wp2
        refine bodyPost_ret (v := .tuple #[.agg #[.bool true, .bool bR, .slice va2 vn2 vc2], .agg #[.bool true, .bool bR, .slice va6 vn6 vc6]]) (by simp [results, Tryz.f79, go_sem, m0, m1, m2, p0, p1, p2]) rfl ⟨_, _, _, _, _, _, rfl, by rw [HT.out.1]; exact hk2, by rw [HT.out.2]; exact hk6, hbw⟩
    · have HAT : Hid ((tn : Int) = (at' : Int)) := Lib.hid (by omega)
      have h2 : (tn : Int) < n := by omega
      clear hmx
      go_enter Tryz.func79, Tryz.ntmps79
      go_wp2_with fail
      rw [← HW2.out]
      refine (wpIn_wide (n := 9)).1 ?_
      refine wpIn_region_putI (by kernel_rfl) (by kernel_rfl) [7, 8] (fun z => if z = 8 then 6 else if z = 7 then 2 else 0) (fun z => if z = 8 then 6 else if z = 7 then 2 else 0) (fun j => keepK ([.val (.agg #[.bool aL, .bool aR, .slice sa sn sc, .bool bL, .bool bR, .slice ta tn tc]), .val (.int .i64 (tn : Int)), .sl ((fun s => .agg #[.bool true, .bool bR, s])) (A0), .val (.agg #[.bool aL, .bool aR, .slice sa sn sc, .bool bL, .bool bR, .slice ta tn tc]), .val (.int .i64 (tn : Int)), .val (.int .i64 (tn : Int)), .sl ((fun s => .agg #[.bool true, .bool bR, s])) (A1), .any, .any].getD j .any)) (by decide) (IB w [w.heap.size + 1, w.heap.size + 1 + 1] [(w.heap.size, 64, #[.bool aL, .bool aR, .slice sa sn sc, .bool bL, .bool bR, .slice ta tn tc])]) (fun i => PhS ([.val (.agg #[.bool aL, .bool aR, .slice sa sn sc, .bool bL, .bool bR, .slice ta tn tc]), .val (.int .i64 (tn : Int)), .sl ((fun s => .agg #[.bool true, .bool bR, s])) (A0), .val (.agg #[.bool aL, .bool aR, .slice sa sn sc, .bool bL, .bool bR, .slice ta tn tc]), .val (.int .i64 (tn : Int)), .val (.int .i64 (tn : Int)), .sl ((fun s => .agg #[.bool true, .bool bR, s])) (A1), .any, .any].getD i .any)) (fun z u v => StS (if z = 8 then .pointer (some ⟨w.heap.size + 1 + 1, 0, none⟩) else if z = 7 then .pointer (some ⟨w.heap.size + 1, 0, none⟩) else .nilFunc) v) (fun W W' hb h => h.below hb) (fun i v W W' hb h => PhS.below hb h) (fun i u v W W' hb h => StS.below hb h) (HIB.out.below (Below.refl _ _).drew) ?_ ?_ ?_
      · intro i oo listed a' W val ho hi hnz haf hS hIW hF
        have hi' : i < 9 := hi
        obtain rfl | rfl | rfl | rfl | rfl | rfl | rfl | rfl | rfl : i = 0 ∨ i = 1 ∨ i = 2 ∨ i = 3 ∨ i = 4 ∨ i = 5 ∨ i = 6 ∨ i = 7 ∨ i = 8 := by omega
        · cases ho
          refine opG_plain rfl rfl ?_
          have q2 : a'.tmps[2]? = some (.pointer (some ⟨w.heap.size, 0, none⟩)) := (hS.tmpBase 2 (by kernel_rfl)).trans rfl
          have hr := hIW.2.2 _ (List.mem_of_getElem? (i := 0) rfl)
          obtain ⟨z0, z1, z2, z3, z4, z5⟩ := srow6 hr
          refine op_valv (.agg #[.bool aL, .bool aR, .slice sa sn sc, .bool bL, .bool bR, .slice ta tn tc]) W (fun _ _ => trivial) ?_ ⟨Below.refl _ _, rfl⟩
          rw [Oper.semAt_plain _ _ _ (by intro c h; cases h)]
          simp [execOp, q2, z0, z1, z2, z3, z4, z5, go_sem]
        · cases ho
          refine opG_plain rfl rfl ?_
          have q8 : a'.tmps[8]? = some (.int .i64 (tn : Int)) := (hS.tmpBase 8 (by kernel_rfl)).trans rfl
          refine op_valv (.int .i64 (tn : Int)) W (fun _ _ => trivial) ?_ ⟨Below.refl _ _, rfl⟩
          rw [Oper.semAt_plain _ _ _ (by intro c h; cases h)]
          simp [execOp, q8, go_sem]
        · cases ho
          refine opG_plain rfl rfl ?_
          have l0 : listed.getD 0 false = true := haf ⟨0, .data⟩ (Array.mem_of_getElem? (i := 0) rfl) rfl
          have q29 : a'.tmps[29]? = some (val 0) := hS.tmpSet 0 _ 29 rfl rfl (by simp) l0
          have h0 : PhS (.val (.agg #[.bool aL, .bool aR, .slice sa sn sc, .bool bL, .bool bR, .slice ta tn tc])) (val 0) W := hF 0 l0 rfl
          rw [show val 0 = .agg #[.bool aL, .bool aR, .slice sa sn sc, .bool bL, .bool bR, .slice ta tn tc] from h0] at q29
          have l1 : listed.getD 1 false = true := haf ⟨1, .data⟩ (Array.mem_of_getElem? (i := 1) rfl) rfl
          have q30 : a'.tmps[30]? = some (val 1) := hS.tmpSet 1 _ 30 rfl rfl (by simp) l1
          have h1 : PhS (.val (.int .i64 (tn : Int))) (val 1) W := hF 1 l1 rfl
          rw [show val 1 = .int .i64 (tn : Int) from h1] at q30
          refine op_callv 92 #[.agg #[.bool aL, .bool aR, .slice sa sn sc, .bool bL, .bool bR, .slice ta tn tc], .int .i64 0, .int .i64 (tn : Int)] (fun _ _ => trivial) ?_ (by omega) ((callsIn_wide.2 (HC0.out _ W HAT.out hIW.1)).mono ?_)
          · rw [Oper.semAt_plain _ _ _ (by intro c h; cases h)]
            simp [execOp, q29, q30, go_sem]
          · rintro e W2 ⟨va, vn, vc, rfl, hk, hb⟩
            exact ⟨_, rfl, hb, va, vn, vc, rfl, hk⟩
        · cases ho
          refine opG_plain rfl rfl ?_
          have q2 : a'.tmps[2]? = some (.pointer (some ⟨w.heap.size, 0, none⟩)) := (hS.tmpBase 2 (by kernel_rfl)).trans rfl
          have hr := hIW.2.2 _ (List.mem_of_getElem? (i := 0) rfl)
          obtain ⟨z0, z1, z2, z3, z4, z5⟩ := srow6 hr
          refine op_valv (.agg #[.bool aL, .bool aR, .slice sa sn sc, .bool bL, .bool bR, .slice ta tn tc]) W (fun _ _ => trivial) ?_ ⟨Below.refl _ _, rfl⟩
          rw [Oper.semAt_plain _ _ _ (by intro c h; cases h)]
          simp [execOp, q2, z0, z1, z2, z3, z4, z5, go_sem]
        · cases ho
          refine opG_plain rfl rfl ?_
          have q8 : a'.tmps[8]? = some (.int .i64 (tn : Int)) := (hS.tmpBase 8 (by kernel_rfl)).trans rfl
          refine op_valv (.int .i64 (tn : Int)) W (fun _ _ => trivial) ?_ ⟨Below.refl _ _, rfl⟩
          rw [Oper.semAt_plain _ _ _ (by intro c h; cases h)]
          simp [execOp, q8, go_sem]
        · cases ho
          refine opG_plain rfl rfl ?_
          have q6 : a'.tmps[6]? = some (.int .i64 (tn : Int)) := (hS.tmpBase 6 (by kernel_rfl)).trans rfl
          refine op_valv (.int .i64 (tn : Int)) W (fun _ _ => trivial) ?_ ⟨Below.refl _ _, rfl⟩
          rw [Oper.semAt_plain _ _ _ (by intro c h; cases h)]
          simp [execOp, q6, go_sem]
        · cases ho
          refine opG_plain rfl rfl ?_
          have l3 : listed.getD 3 false = true := haf ⟨3, .data⟩ (Array.mem_of_getElem? (i := 0) rfl) rfl
          have q32 : a'.tmps[32]? = some (val 3) := hS.tmpSet 3 _ 32 rfl rfl (by simp) l3
          have h3 : PhS (.val (.agg #[.bool aL, .bool aR, .slice sa sn sc, .bool bL, .bool bR, .slice ta tn tc])) (val 3) W := hF 3 l3 rfl
          rw [show val 3 = .agg #[.bool aL, .bool aR, .slice sa sn sc, .bool bL, .bool bR, .slice ta tn tc] from h3] at q32
          have l4 : listed.getD 4 false = true := haf ⟨4, .data⟩ (Array.mem_of_getElem? (i := 1) rfl) rfl
          have q33 : a'.tmps[33]? = some (val 4) := hS.tmpSet 4 _ 33 rfl rfl (by simp) l4
          have h4 : PhS (.val (.int .i64 (tn : Int))) (val 4) W := hF 4 l4 rfl
          rw [show val 4 = .int .i64 (tn : Int) from h4] at q33
          have l5 : listed.getD 5 false = true := haf ⟨5, .data⟩ (Array.mem_of_getElem? (i := 2) rfl) rfl
          have q34 : a'.tmps[34]? = some (val 5) := hS.tmpSet 5 _ 34 rfl rfl (by simp) l5
          have h5 : PhS (.val (.int .i64 (tn : Int))) (val 5) W := hF 5 l5 rfl
          rw [show val 5 = .int .i64 (tn : Int) from h5] at q34
          refine op_callv 92 #[.agg #[.bool aL, .bool aR, .slice sa sn sc, .bool bL, .bool bR, .slice ta tn tc], .int .i64 (tn : Int), .int .i64 (tn : Int)] (fun _ _ => trivial) ?_ (by omega) ((callsIn_wide.2 (HC1.out _ W HAT.out hIW.1)).mono ?_)
          · rw [Oper.semAt_plain _ _ _ (by intro c h; cases h)]
            simp [execOp, q32, q33, q34, go_sem]
          · rintro e W2 ⟨va, vn, vc, rfl, hk, hb⟩
            exact ⟨_, rfl, hb, va, vn, vc, rfl, hk⟩
        · exact absurd (by decide) hnz
        · exact absurd (by decide) hnz
      · intro z oo listed a' W val hz ho haf hS hIW hF hO
        have hz' : z = 7 ∨ z = 8 := by simpa using hz
        obtain rfl | rfl := hz'
        · cases ho
          refine opG_plain rfl rfl ?_
          have q4 : a'.tmps[4]? = some (.pointer (some ⟨w.heap.size + 1, 0, none⟩)) := (hS.tmpBase 4 (by kernel_rfl)).trans rfl
          have l2 : listed.getD 2 false = true := haf ⟨2, .data⟩ (Array.mem_of_getElem? (i := 0) rfl) rfl
          have q31 : a'.tmps[31]? = some (val 2) := hS.tmpSet 2 _ 31 rfl rfl (by simp) l2
          have h2 : PhS (.sl ((fun s => .agg #[.bool true, .bool bR, s])) (A0)) (val 2) W := hF 2 l2 rfl
          obtain ⟨va2, vn2, vc2, e2, hk2⟩ := h2
          rw [e2] at q31
          obtain ⟨hle, hbx⟩ := hIW.2.1 (w.heap.size + 1) (by simp)
          have hbx' := hbx
          obtain ⟨x', y', a0', n', c', hr⟩ := hbx'
          obtain ⟨d0, d1, d2, f0, f1, f2⟩ := srow3 hr
          refine op_skipv (set3 W (w.heap.size + 1) (.bool true) (.bool bR) (.slice va2 vn2 vc2)) (fun _ _ => trivial) ?_ ⟨IB.put hIW hle hbx (fun r hr => by simp only [List.mem_cons, List.not_mem_nil, or_false] at hr; rcases hr with rfl <;> (dsimp only; omega)) _ _ _ _ _, trivial, fun j hj hk => PhS.put hbx _ _ _ hk (hF j hj hk), (show StS (.pointer (some ⟨w.heap.size + 1, 0, none⟩)) (val 2) _ from by rw [e2]; exact StS.of hbx _ _ _), fun y hy hly hne => by
              have hy' : y = 7 ∨ y = 8 := by simpa using hy
              obtain rfl | rfl := hy'
              · exact absurd rfl hne
              · exact StS.other (hO 8 hy hly hne) (by omega) _ _ _⟩
          rw [Oper.semAt_plain _ _ _ (by intro c h; cases h)]
          simp [execOp, q4, q31, d0, d1, d2, f0, f1, f2, go_sem]
        · cases ho
          refine opG_plain rfl rfl ?_
          have q5 : a'.tmps[5]? = some (.pointer (some ⟨w.heap.size + 1 + 1, 0, none⟩)) := (hS.tmpBase 5 (by kernel_rfl)).trans rfl
          have l6 : listed.getD 6 false = true := haf ⟨6, .data⟩ (Array.mem_of_getElem? (i := 0) rfl) rfl
          have q35 : a'.tmps[35]? = some (val 6) := hS.tmpSet 6 _ 35 rfl rfl (by simp) l6
          have h6 : PhS (.sl ((fun s => .agg #[.bool true, .bool bR, s])) (A1)) (val 6) W := hF 6 l6 rfl
          obtain ⟨va6, vn6, vc6, e6, hk6⟩ := h6
          rw [e6] at q35
          obtain ⟨hle, hbx⟩ := hIW.2.1 (w.heap.size + 1 + 1) (by simp)
          have hbx' := hbx
          obtain ⟨x', y', a0', n', c', hr⟩ := hbx'
          obtain ⟨d0, d1, d2, f0, f1, f2⟩ := srow3 hr
          refine op_skipv (set3 W (w.heap.size + 1 + 1) (.bool true) (.bool bR) (.slice va6 vn6 vc6)) (fun _ _ => trivial) ?_ ⟨IB.put hIW hle hbx (fun r hr => by simp only [List.mem_cons, List.not_mem_nil, or_false] at hr; rcases hr with rfl <;> (dsimp only; omega)) _ _ _ _ _, trivial, fun j hj hk => PhS.put hbx _ _ _ hk (hF j hj hk), (show StS (.pointer (some ⟨w.heap.size + 1 + 1, 0, none⟩)) (val 6) _ from by rw [e6]; exact StS.of hbx _ _ _), fun y hy hly hne => by
              have hy' : y = 7 ∨ y = 8 := by simpa using hy
              obtain rfl | rfl := hy'
              · exact StS.other (hO 7 hy hly hne) (by omega) _ _ _
              · exact absurd rfl hne⟩
          rw [Oper.semAt_plain _ _ _ (by intro c h; cases h)]
          simp [execOp, q5, q35, d0, d1, d2, f0, f1, f2, go_sem]
      · intro W9 val hIW hF hST
        have e0 : val 0 = .agg #[.bool aL, .bool aR, .slice sa sn sc, .bool bL, .bool bR, .slice ta tn tc] := hF 0 (by decide) rfl
        have e1 : val 1 = .int .i64 (tn : Int) := hF 1 (by decide) rfl
        obtain ⟨va2, vn2, vc2, e2, hk2⟩ : PhS (.sl ((fun s => .agg #[.bool true, .bool bR, s])) (A0)) (val 2) W9 := hF 2 (by decide) rfl
        have e3 : val 3 = .agg #[.bool aL, .bool aR, .slice sa sn sc, .bool bL, .bool bR, .slice ta tn tc] := hF 3 (by decide) rfl
        have e4 : val 4 = .int .i64 (tn : Int) := hF 4 (by decide) rfl
        have e5 : val 5 = .int .i64 (tn : Int) := hF 5 (by decide) rfl
        obtain ⟨va6, vn6, vc6, e6, hk6⟩ : PhS (.sl ((fun s => .agg #[.bool true, .bool bR, s])) (A1)) (val 6) W9 := hF 6 (by decide) rfl
        have hst7 := (show StS (.pointer (some ⟨w.heap.size + 1, 0, none⟩)) (val 2) W9 from hST 7 (by simp)) _ _ _ _ rfl e2
        have hst8 := (show StS (.pointer (some ⟨w.heap.size + 1 + 1, 0, none⟩)) (val 6) W9 from hST 8 (by simp)) _ _ _ _ rfl e6
        simp only [finAct, List.getElem?_toArray, List.getElem?_cons_zero, List.getElem?_cons_succ, Act.put, List.setIfInBounds_toArray, List.set_cons_zero, List.set_cons_succ, List.size_toArray, List.length_cons, List.length_nil, Nat.reduceAdd]
        simp only [e0, e1, e2, e3, e4, e5, e6]
        obtain ⟨m0, m1, m2, -, -, -⟩ := srow3 hst7
        obtain ⟨p0, p1, p2, -, -, -⟩ := srow3 hst8
        have hbw := hIW.1
        clear hF hST hst7 hst8 hIW
        go_wp2
        refine bodyPost_ret (v := .tuple #[.agg #[.bool true, .bool bR, .slice va2 vn2 vc2], .agg #[.bool true, .bool bR, .slice va6 vn6 vc6]]) (by simp [results, Tryz.f79, go_sem, m0, m1, m2, p0, p1, p2]) rfl ⟨_, _, _, _, _, _, rfl, by rw [HT.out.1]; exact hk2, by rw [HT.out.2]; exact hk6, hbw⟩
end Go.Proofs.YteclpoooggcdoaaGreatDoor.Ar
/- shape's helpers, as the makers meet them. -/
namespace Go.Proofs.YteclpoooggcdoaaGreatDoor.Ar
open Go Go.RowKit
attribute [local go_sem] Oper.semAt_some

theorem right200 {a : Ary} (h : rightA a = true) : a.n.length ≤ 200 := by
  unfold rightA cntA at h
  cases hl : a.list
  · rw [hl] at h
    simp at h
    omega
  · rw [hl] at h
    simp at h
    omega
theorem one_s (x : Int) (w : World) : Calls Tryz.prog 76 #[.int .i64 x] w fun e w' => ∃ va vn vc, e = .returned (.agg #[.bool false, .bool false, .slice va vn vc]) ∧ KL w' (.slice va vn vc) [x] ∧ Below w.heap.size w w' := by
  refine (one_num x w).mono ?_
  rintro e w' ⟨v, rfl, hk, hb⟩
  obtain ⟨va, vc, rfl, -, -⟩ := hk.form
  exact ⟨va, _, vc, rfl, hk, hb⟩
theorem blank_s (L R : Bool) (n : Nat) (hn : n ≤ 1000) (w : World) : Calls Tryz.prog 74 #[.bool L, .bool R, .int .i64 (n : Int)] w fun e w' => ∃ va vn vc, e = .returned (.agg #[.bool L, .bool R, .slice va vn vc]) ∧ KL w' (.slice va vn vc) (List.replicate n 0) ∧ Below w.heap.size w w' := by
  refine (blank_c L R n hn w).mono ?_
  rintro e w' ⟨b, rfl, hle, hr, hb⟩
  have := kl_of_row hr (by simpa using hn)
  rw [List.length_replicate] at this
  exact ⟨_, _, _, rfl, this, hb⟩
theorem join_one (a : Ary) (s : Value) (w : World) (hs : KL w s a.n) (hn : a.n.length ≤ 1000) : Calls Tryz.prog 75 #[.slice (some ⟨w.heap.size, 0, none⟩) 1 1] (w.alloc (.cells #[.bool a.list, .bool a.runes, s] 24)) fun e w' => ∃ va vn vc, e = .returned (.agg #[.bool true, .bool a.runes, .slice va vn vc]) ∧ KL w' (.slice va vn vc) a.n ∧ Below w.heap.size w w' := by
  have hb1 : Below w.heap.size w (w.alloc (.cells #[.bool a.list, .bool a.runes, s] 24)) := (Below.refl _ _).alloc (Nat.le_refl _) _
  have hfl : flatN [a] = a.n := by simp [flatN]
  have hh : hasAny [a] = a.runes := by
    simp [hasAny, hasR]
    cases a.runes <;> simp
  have := join_c w.heap.size 0 1 [a] _ (jat_one hs) (by simp) (by rw [hfl]; exact hn)
  rw [hfl, hh] at this
  refine this.mono ?_
  rintro e w' ⟨v, rfl, hk, hb⟩
  obtain ⟨va, vc, rfl, -, -⟩ := hk.form
  exact ⟨va, _, vc, rfl, hk, hb1.trans (hb.mono hb1.size)⟩
theorem join_two (a b : Ary) (s t : Value) (w : World) (hs : KL w s a.n) (ht : KL w t b.n) (hn : a.n.length + b.n.length ≤ 1000) : Calls Tryz.prog 75 #[.slice (some ⟨w.heap.size, 0, none⟩) 2 2] (w.alloc (.cells #[.bool a.list, .bool a.runes, s, .bool b.list, .bool b.runes, t] 24)) fun e w' => ∃ va vn vc, e = .returned (.agg #[.bool true, .bool (hasAny [a, b]), .slice va vn vc]) ∧ KL w' (.slice va vn vc) (a.n ++ b.n) ∧ Below w.heap.size w w' := by
  have hb1 : Below w.heap.size w (w.alloc (.cells #[.bool a.list, .bool a.runes, s, .bool b.list, .bool b.runes, t] 24)) := (Below.refl _ _).alloc (Nat.le_refl _) _
  have hfl : flatN [a, b] = a.n ++ b.n := by simp [flatN]
  have := join_c w.heap.size 0 2 [a, b] _ (jat_two hs ht) (by simp) (by rw [hfl, List.length_append]; exact hn)
  rw [hfl] at this
  refine this.mono ?_
  rintro e w' ⟨v, rfl, hk, hb⟩
  obtain ⟨va, vc, rfl, -, -⟩ := hk.form
  exact ⟨va, _, vc, rfl, hk, hb1.trans (hb.mono hb1.size)⟩
theorem le1000 {n : Int} {L : List Int} (h : L.length ≤ 1000) : (otL n L).length ≤ 1000 := by
  unfold otL
  split <;> simp <;> omega
theorem two_facts {W U : World} {o p : Obj} (h : U = (W.alloc o).alloc p) : Below W.heap.size W U ∧ U.heap.size = W.heap.size + 1 + 1 := by
  subst h
  exact ⟨((Below.refl _ _).alloc (Nat.le_refl _) _).alloc (by simp) _, by simp⟩
theorem len2 {n : Int} {L : List Int} (h : L.length ≤ 1000) : (otL n L).length + (tkL n L).length ≤ 1000 := by
  unfold otL tkL
  split <;> simp <;> omega
theorem set_next {P : List Int} {k n : Nat} (hP : P.length = k) (hk : k < n) (x : Int) : (P ++ List.replicate (n - k) 0).set k x = (P ++ [x]) ++ List.replicate (n - (k + 1)) 0 := by
  rw [List.set_append_right _ _ (by omega), hP, Nat.sub_self, show n - k = (n - (k + 1)) + 1 by omega, List.replicate_succ, List.set_cons_zero, List.append_assoc]
  rfl
theorem upL_snoc (k : Nat) : upL (k + 1) = upL k ++ [(k : Int) + 1] := by simp [upL, List.range_succ]
theorem row_put {W : World} {b : Nat} {L : List Int} (hr : Row W b 2 (intV L)) (k : Nat) (x : Int) : Row (W.setCell ⟨b, k, none⟩ (.int .i64 x)) b 2 (intV (L.set k x)) := by
  have := hr.set k (.int .i64 x)
  rw [intV_set] at this
  exact this
theorem row_int {W : World} {b : Nat} {L : List Int} (hr : Row W b 2 (intV L)) {k : Nat} {x : Int} (h : L[k]? = some x) : W.cell? ⟨b, k, none⟩ = some (.int .i64 x) ∧ W.frozen? ⟨b, k, none⟩ = false := ⟨(hr.cell k).trans (intV_at h), hr.frozen k⟩
theorem any_like (L M : List Int) (l m r : Bool) : hasAny [⟨l, r, L⟩, ⟨m, r, M⟩] = r := by
  cases r <;> simp [hasAny, hasR]
end Go.Proofs.YteclpoooggcdoaaGreatDoor.Ar
/- A region that draws its order and puts one number into a row. -/
namespace Go.Proofs.YteclpoooggcdoaaGreatDoor.Ar
open Go Go.RowKit
def keepV : SK → Bool
  | .val _ => true
  | .any => true
  | _ => false
theorem PhS.anyW {W W' : World} : ∀ {k : SK} {v : Value}, keepV k = true → PhS k v W → PhS k v W'
  | .val _, _, _, h => h
  | .any, _, _, _ => trivial
/-- What holds where one number is put into a row. -/
def II (w : World) (rs : List (Nat × TypeId × Array Value)) (mb : Nat) (L1 L2 : List Int) (W : World) : Prop := IB w [] rs W ∧ w.heap.size ≤ mb ∧ (Row W mb 2 (intV L1) ∨ Row W mb 2 (intV L2))
theorem II.below {w : World} {rs : List (Nat × TypeId × Array Value)} {mb : Nat} {L1 L2 : List Int} {W W' : World} (hb : Below W.heap.size W W') (h : II w rs mb L1 L2 W) : II w rs mb L1 L2 W' :=
  ⟨h.1.below hb, h.2.1, h.2.2.imp (fun hr => hr.below hb hr.lt) (fun hr => hr.below hb hr.lt)⟩
theorem II.cell {w : World} {rs : List (Nat × TypeId × Array Value)} {mb : Nat} {L1 L2 : List Int} {W : World} (h : II w rs mb L1 L2 W) {k : Nat} (h1 : k < L1.length) (h2 : L2.length = L1.length) : ∃ y, W.cell? ⟨mb, k, none⟩ = some (.int .i64 y) ∧ W.frozen? ⟨mb, k, none⟩ = false := by
  rcases h.2.2 with hr | hr
  · obtain ⟨y, hy⟩ := sat_of h1
    exact ⟨y, (hr.cell k).trans (intV_at hy), hr.frozen k⟩
  · obtain ⟨y, hy⟩ := sat_of (h2 ▸ h1)
    exact ⟨y, (hr.cell k).trans (intV_at hy), hr.frozen k⟩
theorem II.put {w : World} {rs : List (Nat × TypeId × Array Value)} {mb : Nat} {L1 L2 : List Int} {W : World} (h : II w rs mb L1 L2 W) (hne : ∀ r ∈ rs, r.1 ≠ mb) (k : Nat) (x : Int) (e1 : L1.set k x = L2) (e2 : L2.set k x = L2) : II w rs mb L1 L2 (W.setCell ⟨mb, k, none⟩ (.int .i64 x)) ∧ Row (W.setCell ⟨mb, k, none⟩ (.int .i64 x)) mb 2 (intV L2) := by
  have hr : Row (W.setCell ⟨mb, k, none⟩ (.int .i64 x)) mb 2 (intV L2) := by
    rcases h.2.2 with hr | hr
    · have := hr.set k (.int .i64 x)
      rw [intV_set, e1] at this
      exact this
    · have := hr.set k (.int .i64 x)
      rw [intV_set, e2] at this
      exact this
  exact ⟨⟨⟨h.1.1.setCell (p := ⟨mb, k, none⟩) h.2.1 _, (fun _ hk => absurd hk (by simp)), fun r hr' => (h.1.2.2 r hr').other (hne r hr') _⟩, h.2.1, .inr hr⟩, hr⟩
end Go.Proofs.YteclpoooggcdoaaGreatDoor.Ar
/- As wpIn_region_putI, where the store may go into the region's own box. -/
namespace Go.Proofs.YteclpoooggcdoaaGreatDoor.Ar
open Go Go.RowKit
section
variable {F : Fence} {n : Nat} {P : Program} {ops : Array Oper} {Q : Exit → Act → World → Prop}
theorem wpIn_region_putO {id : Nat} {a : Act} {w : World} (hm : P.follows .mixedOrders = true) (hp : guardOps ops = true) (Z : List Nat) (ar bx : Nat → Nat) (Kp : Nat → Bool) (hbk : ∀ z ∈ Z, z < ops.size ∧ ar z ∈ backOf ops ops.size z ∧ bx z ∈ backOf ops ops.size z ∧ ar z ∉ Z ∧ bx z ∉ Z) (I : World → Prop) (Ph : Nat → Value → World → Prop) (St : Nat → Value → Value → World → Prop)
    (hI : ∀ W W', Below W.heap.size W W' → I W → I W') (hPh : ∀ i v W W', Below W.heap.size W W' → Ph i v W → Ph i v W') (hSt : ∀ i u v W W', Below W.heap.size W W' → St i u v W → St i u v W') (h0 : I w.drew)
    (hstep : ∀ (i : Nat) (o : Oper) (listed : Array Bool) (a' : Act) (W : World) (val : Nat → Value), ops[i]? = some o → i < ops.size → i ∉ Z → (∀ e ∈ o.after, Region.binds .any e = true → listed.getD e.on false = true) → Shape ops a val listed a' → I W → (∀ j, listed.getD j false = true → (Kp j || Z.all fun z => (backOf ops ops.size z).contains i) = true → Ph j (val j) W) →
      wpOpIn F n P ops Q i (fun a'' W'' => ∃ v, a'' = a'.put o.dst v ∧ Below W.heap.size W W'' ∧ Ph i v W'') a' W)
    (hput : ∀ (z : Nat) (o : Oper) (listed : Array Bool) (a' : Act) (W : World) (val : Nat → Value), z ∈ Z → listed.getD z false = false → ops[z]? = some o → (∀ e ∈ o.after, Region.binds .any e = true → listed.getD e.on false = true) → Shape ops a val listed a' → I W → (∀ j, listed.getD j false = true → (Kp j || Z.all fun y => !listed.getD y false) = true → Ph j (val j) W) → (∀ y ∈ Z, listed.getD y false = true → y ≠ z → St y (val (bx y)) (val (ar y)) W) →
      wpOpIn F n P ops Q z (fun a'' W'' => ∃ v, a'' = a'.put o.dst v ∧ I W'' ∧ Ph z v W'' ∧ (∀ j, listed.getD j false = true → Kp j = true → Ph j (val j) W'') ∧ St z (val (bx z)) (val (ar z)) W'' ∧ (∀ y ∈ Z, listed.getD y false = true → y ≠ z → St y (val (bx y)) (val (ar y)) W'')) a' W)
    (hend : ∀ (W : World) (val : Nat → Value), I W → (∀ j, j < ops.size → Kp j = true → Ph j (val j) W) → (∀ z ∈ Z, St z (val (bx z)) (val (ar z)) W) → Q .normal (finAct ops a val ops.size) W) : (Code.region id ops true).wpIn F n P Q a w := by
  refine wpIn_region_valsG hm hp (fun listed val W => listed.size = ops.size ∧ Closed .any ops listed ∧ I W ∧ (∀ j, listed.getD j false = true → (Kp j || Z.all fun z => !listed.getD z false) = true → Ph j (val j) W) ∧ (∀ z ∈ Z, listed.getD z false = true → St z (val (bx z)) (val (ar z)) W)) (fun val => ⟨by simp, fun j o ho hl => absurd hl (by rw [rep_getD]; decide), h0, fun j hl => absurd hl (by rw [rep_getD]; decide), fun z _ hl => absurd hl (by rw [rep_getD]; decide)⟩) (fun i o listed a' W val ho hsz hu haf hS hJ => ?_) (fun listed W val hl hJ => ?_)
  · obtain ⟨hs, hcl, hIW, hF, hT⟩ := hJ
    have hi := (Array.getElem?_eq_some_iff.1 ho).1
    have hset : ∀ j, (listed.setIfInBounds i true).getD j false = if i = j then true else listed.getD j false := fun j => lset hs hi
    have hcl' : Closed .any ops (listed.setIfInBounds i true) := fun j o' ho' hlj e he hb => by
      rw [hset] at hlj ⊢
      by_cases e1 : i = j
      · subst e1
        rw [ho] at ho'
        cases ho'
        split
        · rfl
        · exact haf e he hb
      · rw [if_neg e1] at hlj
        split
        · rfl
        · exact hcl j o' ho' hlj e he hb
    have hback : ∀ z ∈ Z, listed.getD z false = true → ∀ x ∈ backOf ops ops.size z, x ≠ i := fun z hz hlz x hx e => by
      have hzl := (hbk z hz).1
      have hoz : ops[z]? = some ops[z] := Array.getElem?_eq_getElem hzl
      have := back_listed hcl _ z _ hoz (fun e he hb => hcl z _ hoz hlz e he hb) x hx
      rw [e, hu] at this
      cases this
    by_cases hzi : i ∈ Z
    · refine wpOpIn_mono' (fun a'' W'' h' => ?_) (hput i o listed a' W val hzi hu ho haf hS hIW hF (fun y hy hly _ => hT y hy hly))
      obtain ⟨v, rfl, hb, hv, hk, hst, hso⟩ := h'
      refine ⟨v, rfl, by simp [hs], hcl', hb, fun j hlj hkj => ?_, fun z hz hlz => ?_⟩
      · have hkj' : Kp j = true := by
          cases hq : Kp j with
          | true => rfl
          | false =>
            rw [hq, Bool.false_or, List.all_eq_true] at hkj
            have := hkj i hzi
            rw [hset, if_pos rfl] at this
            cases this
        rw [hset] at hlj
        by_cases e : i = j
        · subst e
          simp only [if_pos]
          exact hv
        · rw [if_neg e] at hlj
          simp only [if_neg (Ne.symm e)]
          exact hk j hlj hkj'
      · have n1 : bx z ≠ i := fun e => (hbk z hz).2.2.2.2 (e ▸ hzi)
        have n2 : ar z ≠ i := fun e => (hbk z hz).2.2.2.1 (e ▸ hzi)
        simp only [if_neg n1, if_neg n2]
        by_cases e : z = i
        · subst e
          exact hst
        · rw [hset, if_neg (Ne.symm e)] at hlz
          exact hso z hz hlz e
    · have hzi' : ∀ z ∈ Z, i ≠ z := fun z hz e => hzi (e ▸ hz)
      refine wpOpIn_mono' (fun a'' W'' h' => ?_) (hstep i o listed a' W val ho hi hzi haf hS hIW (fun j hj hk => ?_))
      · obtain ⟨v, rfl, hb, hv⟩ := h'
        refine ⟨v, rfl, by simp [hs], hcl', hI _ _ hb hIW, fun j hlj hkj => ?_, fun z hz hlz => ?_⟩
        · rw [hset] at hlj
          by_cases e : i = j
          · subst e
            simp only [if_pos]
            exact hv
          · rw [if_neg e] at hlj
            simp only [if_neg (Ne.symm e)]
            refine hPh _ _ _ _ hb (hF j hlj ?_)
            cases hq : Kp j with
            | true => rfl
            | false =>
              rw [hq, Bool.false_or, List.all_eq_true] at hkj
              rw [Bool.false_or, List.all_eq_true]
              intro z hz
              have := hkj z hz
              rw [hset, if_neg (hzi' z hz)] at this
              exact this
        · rw [hset, if_neg (hzi' z hz)] at hlz
          have n1 : bx z ≠ i := hback z hz hlz _ (hbk z hz).2.2.1
          have n2 : ar z ≠ i := hback z hz hlz _ (hbk z hz).2.1
          simp only [if_neg n1, if_neg n2]
          exact hSt _ _ _ _ _ hb (hT z hz hlz)
      · refine hF j hj ?_
        cases hq : Kp j with
        | true => rfl
        | false =>
          rw [hq, Bool.false_or, List.all_eq_true] at hk
          rw [Bool.false_or, List.all_eq_true]
          intro z hz
          cases hlz : listed.getD z false with
          | false => rfl
          | true => exact absurd rfl (hback z hz hlz i (by have := hk z hz; simpa using this))
  · obtain ⟨_, _, hIW, hF, hT⟩ := hJ
    exact hend W val hIW (fun j hj hk => hF j (hl j hj) (by rw [hk]; rfl)) (fun z hz => hT z hz (hl z (hbk z hz).1))
end
end Go.Proofs.YteclpoooggcdoaaGreatDoor.Ar
