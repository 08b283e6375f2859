/- A region that draws its order within a fence: some operations, each behind the one ahead, change the world; all others read. Nothing of the program stands here. -/
import Derived.Test.YtbegplfijjbpcaaDoorNqVal
namespace Go.Proofs.YtbegplfijjbpcaaDoor
open Go
/-- What must come ahead of operation i. -/
def backOf (ops : Array Oper) : Nat → Nat → List Nat
  | 0, _ => []
  | f + 1, i => match ops[i]? with
    | none => []
    | some o => o.after.toList.flatMap fun e => if Region.binds .any e then e.on :: backOf ops f e.on else []
theorem back_listed {ops : Array Oper} {listed : Array Bool} (hc : Closed .any ops listed) : ∀ (f i : Nat) (o : Oper), ops[i]? = some o → (∀ e ∈ o.after, Region.binds .any e = true → listed.getD e.on false = true) → ∀ j ∈ backOf ops f i, listed.getD j false = true
  | 0, _, _, _, _, j, hj => by cases hj
  | f + 1, i, o, ho, haf, j, hj => by
    unfold backOf at hj
    rw [ho] at hj
    obtain ⟨e, he, hje⟩ := List.mem_flatMap.1 hj
    split at hje
    · rename_i hb
      have he' : e ∈ o.after := Array.mem_toList_iff.1 he
      have h1 := haf e he' hb
      rcases List.mem_cons.1 hje with rfl | h2
      · exact h1
      · cases ho2 : ops[e.on]? with
        | none =>
          cases f with
          | zero => cases h2
          | succ f => unfold backOf at h2; rw [ho2] at h2; cases h2
        | some o2 => exact back_listed hc f e.on o2 ho2 (hc e.on o2 ho2 h1) j h2
    · cases hje
def chainOk (ops : Array Oper) (chain : List Nat) : Bool := (chain.zip chain.tail).all fun p => (backOf ops ops.size p.2).contains p.1
section
variable {F : Fence} {n : Nat} {P : Program} {ops : Array Oper} {Q : Exit → Act → World → Prop}
theorem wpIn_region_chain {id : Nat} {a : Act} {w : World} (hm : P.follows .mixedOrders = true) (hp : plainOps ops = true) (chain : List Nat) (hck : chainOk ops chain = true) (hnd : chain.Nodup) (hsz : ∀ i ∈ chain, i < ops.size)
    (Ph : Nat → Value → Prop) (Ps : Nat → (Nat → Value) → World → Prop) (h0 : ∀ val, Ps 0 val w.drew)
    (hPs : ∀ k val val' W, (∀ m i, m < k → chain[m]? = some i → val i = val' i) → Ps k val W → Ps k val' W)
    (hplain : ∀ (i : Nat) (o : Oper) (listed : Array Bool) (a' : Act) (W : World) (val : Nat → Value) (k : Nat), ops[i]? = some o → i ∉ chain → (∀ e ∈ o.after, Region.binds .any e = true → listed.getD e.on false = true) → Shape ops a val listed a' → (∀ j, listed.getD j false = true → j ∉ chain → Ph j (val j)) →
      (∀ m j, chain[m]? = some j → (backOf ops ops.size j).contains i = true → k ≤ m) → (∀ m j, chain[m]? = some j → listed.getD j false = true → m < k) → Ps k val W →
      (∀ f, o.about P W a'.eval = some f → F.fn f) ∧ ∃ r v, (o.semAt F.round a'.eval).run P W = .ok r W ∧ (r = .value v ∨ (r = .skip ∧ v = undef)) ∧ Ph i v)
    (hchain : ∀ (m i : Nat) (o : Oper) (listed : Array Bool) (a' : Act) (W : World) (val : Nat → Value), ops[i]? = some o → chain[m]? = some i → (∀ e ∈ o.after, Region.binds .any e = true → listed.getD e.on false = true) → Shape ops a val listed a' → (∀ j, listed.getD j false = true → j ∉ chain → Ph j (val j)) → Ps m val W →
      o.wpIn F n P a' W (fun a'' W'' => ∃ v, a'' = a'.put o.dst v ∧ Ps (m + 1) (fun j => if j = i then v else val j) W'') Q)
    (hend : ∀ (W : World) (val : Nat → Value), Ps chain.length val W → (∀ j, j < ops.size → j ∉ chain → Ph j (val j)) → Q .normal (finAct ops a val ops.size) W) : (Code.region id ops true).wpIn F n P Q a w := by
  have hpre : ∀ m j i, chain[m]? = some j → chain[m + 1]? = some i → j ∈ backOf ops ops.size i := fun m j i h1 h2 => by
    unfold chainOk at hck
    rw [List.all_eq_true] at hck
    have hz : (chain.zip chain.tail)[m]? = some (j, i) := by
      rw [List.getElem?_zip_eq_some]
      exact ⟨h1, by rw [List.getElem?_tail]; exact h2⟩
    have := hck (j, i) (List.mem_of_getElem? hz)
    exact List.contains_iff_mem.1 this
  refine wpIn_region_vals hm hp (fun listed val W => listed.size = ops.size ∧ Closed .any ops listed ∧ (∀ j, listed.getD j false = true → j ∉ chain → Ph j (val j)) ∧ ∃ k, k ≤ chain.length ∧ (∀ m j, chain[m]? = some j → (listed.getD j false = true ↔ m < k)) ∧ Ps k val W) (fun val => ⟨by simp, fun j o ho hl => absurd hl (by rw [rep_getD]; decide), fun j hl => absurd hl (by rw [rep_getD]; decide), 0, Nat.zero_le _, fun m j _ => ⟨fun h => absurd h (by rw [rep_getD]; decide), fun h => by omega⟩, h0 val⟩) (fun i o listed a' W val ho hs hu haf hS hJ => ?_) (fun listed W val hl hJ => ?_)
  · obtain ⟨_, hcl, hF, k, hk, hkl, hps⟩ := hJ
    have hi := (Array.getElem?_eq_some_iff.1 ho).1
    have hset : ∀ j, (listed.setIfInBounds i true).getD j false = if i = j then true else listed.getD j false := fun j => lset hs hi
    have hcl' : Closed .any ops (listed.setIfInBounds i true) := fun j o' ho' hlj e he hb => by
      rw [hset] at hlj ⊢
      by_cases e1 : i = j
      · subst e1
        rw [ho] at ho'
        cases ho'
        split
        · rfl
        · exact haf e he hb
      · rw [if_neg e1] at hlj
        split
        · rfl
        · exact hcl j o' ho' hlj e he hb
    by_cases hc : i ∈ chain
    · obtain ⟨m, hm2⟩ := List.mem_iff_getElem?.1 hc
      have hkm : k = m := by
        have h1 : ¬ m < k := fun h => by rw [(hkl m i hm2).2 h] at hu; cases hu
        cases m with
        | zero => omega
        | succ m =>
          obtain ⟨j, hj⟩ : ∃ j, chain[m]? = some j := ⟨_, List.getElem?_eq_getElem (by have := (List.getElem?_eq_some_iff.1 hm2).1; omega)⟩
          have := (hkl m j hj).1 (back_listed hcl _ i o ho haf j (hpre m j i hj hm2))
          omega
      subst hkm
      refine Oper.wpIn_mono (fun a'' W'' h' => ?_) (hchain k i o listed a' W val ho hm2 haf hS hF hps)
      obtain ⟨v, rfl, hv⟩ := h'
      refine ⟨v, rfl, by simp [hs], hcl', fun j hlj hjc => ?_, k + 1, by have := (List.getElem?_eq_some_iff.1 hm2).1; omega, fun m j hmj => ?_, hv⟩
      · have hne : i ≠ j := fun e => hjc (e ▸ hc)
        rw [hset, if_neg hne] at hlj
        simp only [if_neg (Ne.symm hne)]
        exact hF j hlj hjc
      · rw [hset]
        by_cases e : i = j
        · subst e
          rw [if_pos rfl]
          have hml := (List.getElem?_eq_some_iff.1 hmj).1
          have : m = k := (List.getElem?_inj hml hnd).1 (hmj.trans hm2.symm)
          exact ⟨fun _ => by omega, fun _ => rfl⟩
        · rw [if_neg e, hkl m j hmj]
          constructor
          · intro h; omega
          · intro h
            rcases Nat.lt_or_ge m k with h1 | h1
            · exact h1
            · obtain rfl : m = k := by omega
              rw [hmj] at hm2
              cases hm2
              exact absurd rfl e
    · obtain ⟨h1, r, v, h2, h3, h4⟩ := hplain i o listed a' W val k ho hc haf hS hF (fun m j hmj hbk => by
        rcases Nat.lt_or_ge m k with h | h
        · have hlj := (hkl m j hmj).2 h
          obtain ⟨oj, hoj⟩ : ∃ oj, ops[j]? = some oj := ⟨_, Array.getElem?_eq_getElem (hsz j (List.mem_of_getElem? hmj))⟩
          have := back_listed hcl _ j oj hoj (hcl j oj hoj hlj) i (List.contains_iff_mem.1 hbk)
          rw [this] at hu
          cases hu
        · exact h) (fun m j hmj hlj => (hkl m j hmj).1 hlj) hps
      have hnew : (listed.setIfInBounds i true).size = ops.size ∧ Closed .any ops (listed.setIfInBounds i true) ∧ (∀ j, (listed.setIfInBounds i true).getD j false = true → j ∉ chain → Ph j ((fun j => if j = i then v else val j) j)) ∧ ∃ k, k ≤ chain.length ∧ (∀ m j, chain[m]? = some j → ((listed.setIfInBounds i true).getD j false = true ↔ m < k)) ∧ Ps k (fun j => if j = i then v else val j) W := by
        refine ⟨by simp [hs], hcl', fun j hlj hjc => ?_, k, hk, fun m j hmj => ?_, hPs k val _ W (fun m j _ hmj => ?_) hps⟩
        · by_cases e : j = i
          · subst e
            simp only [if_pos]
            exact h4
          · simp only [if_neg e]
            rw [hset, if_neg (Ne.symm e)] at hlj
            exact hF j hlj hjc
        · have hne : i ≠ j := fun e => hc (e ▸ List.mem_of_getElem? hmj)
          rw [hset, if_neg hne]
          exact hkl m j hmj
        · have hne : j ≠ i := fun e => hc (e ▸ List.mem_of_getElem? hmj)
          simp only [if_neg hne]
      rcases h3 with rfl | ⟨rfl, rfl⟩
      · exact op_valv v W h1 h2 hnew
      · exact op_skipv W h1 h2 hnew
  · obtain ⟨_, _, hF, k, hk, hkl, hps⟩ := hJ
    have hke : k = chain.length := by
      rcases Nat.lt_or_ge k chain.length with h | h
      · obtain ⟨j, hj⟩ : ∃ j, chain[k]? = some j := ⟨_, List.getElem?_eq_getElem h⟩
        have := (hkl k j hj).1 (hl j (hsz j (List.mem_of_getElem? hj)))
        omega
      · omega
    subst hke
    exact hend W val hps (fun j hj hjc => hF j (hl j hj) hjc)
end
end Go.Proofs.YtbegplfijjbpcaaDoor
