/- Merged by gen/nq_merge.py: NqVal, NqFacts, NqChain, NqChn. -/
import Derived.Test.YtbegplfijjbpcaaDoorGrShp
import Derived.Test.YtbegplfijjbpcaaDoorPgRow
/- A region that draws its order within a fence: the values are chosen as they come; what is said of them and of the world is kept step by step. Nothing of the program stands here. -/
namespace Go.Proofs.YtbegplfijjbpcaaDoor
open Go
section
variable {F : Fence} {n : Nat} {P : Program} {ops : Array Oper} {Q : Exit → Act → World → Prop} {md : Region.Mode}

/-- Each operation that may come up keeps what is said of frame and world. -/
theorem wpAnyIn_inv (J : Array Bool → Act → World → Prop)
    (hg : ∀ (i : Nat) (o : Oper), ops[i]? = some o → o.guard = none)
    (hord : ∀ (i : Nat) (o : Oper) (e : Edge), ops[i]? = some o → e ∈ o.after → Region.binds md e = true → e.on < i)
    (hstep : ∀ (i : Nat) (o : Oper) (listed : Array Bool) (a : Act) (w : World), ops[i]? = some o → listed.size = ops.size → listed.getD i false = false → (∀ e ∈ o.after, Region.binds md e = true → listed.getD e.on false = true) → J listed a w →
      o.wpIn F n P a w (J (listed.setIfInBounds i true)) Q)
    (hend : ∀ (listed : Array Bool) (a : Act) (w : World), (∀ i, i < ops.size → listed.getD i false = true) → J listed a w → Q .normal a w) :
    ∀ (fuel : Nat) (listed : Array Bool) (a : Act) (w : World), listed.size = ops.size → left ops listed = fuel → J listed a w → wpAnyIn F n P md ops Q fuel listed a w := by
  have hfin : ∀ (listed : Array Bool), listed.size = ops.size → Region.ready md ops listed = [] → ∀ i, i < ops.size → listed.getD i false = true := by
    intro listed hsz hr
    have hall : ∀ k i, i < k → i < ops.size → listed.getD i false = true := by
      intro k
      induction k with
      | zero => intro i hi; omega
      | succ k ih =>
        intro i hi his
        rcases Nat.lt_or_ge i k with hlt | hge
        · exact ih i hlt his
        · obtain rfl : i = k := by omega
          apply Classical.byContradiction
          intro hn
          have hmem : i ∈ Region.ready md ops listed := by
            unfold Region.ready
            rw [List.mem_filter]
            refine ⟨List.mem_range.2 his, ?_⟩
            have hx : listed.getD i true = false := by
              simp only [Array.getD_eq_getD_getElem?] at hn ⊢
              rw [Array.getElem?_eq_getElem (by omega)] at hn ⊢
              simpa using hn
            rw [hx, Array.getElem?_eq_getElem his]
            simp only [Bool.not_false, Bool.true_and, Option.map_some, Option.getD_some, Array.all_eq_true]
            intro e he
            cases hb : Region.binds md ops[i].after[e] with
            | false => simp
            | true =>
              have h1 := hord i ops[i] _ (Array.getElem?_eq_getElem his) (Array.getElem_mem he) hb
              rw [ih _ h1 (by omega)]
              simp
          rw [hr] at hmem
          cases hmem
    exact fun i hi => hall (i + 1) i (by omega) hi
  intro fuel
  induction fuel with
  | zero =>
    intro listed a w hsz hl hJ
    have hall : ∀ i, i < ops.size → listed.getD i true = true := by
      intro i hi
      have := List.eq_nil_of_length_eq_zero hl
      rw [List.filter_eq_nil_iff] at this
      simpa using this i (List.mem_range.2 hi)
    have hr : Region.ready md ops listed = [] := by
      unfold Region.ready
      rw [List.filter_eq_nil_iff]
      intro i hi
      rw [hall i (List.mem_range.1 hi)]
      simp
    exact ⟨hr, hend listed a w (hfin listed hsz hr) hJ⟩
  | succ fuel ih =>
    intro listed a w hsz hl hJ
    refine ⟨fun hr => hend listed a w (hfin listed hsz hr) hJ, fun i hi => ?_⟩
    unfold Region.ready at hi
    rw [List.mem_filter, List.mem_range] at hi
    obtain ⟨his, hcond⟩ := hi
    rw [Array.getElem?_eq_getElem his] at hcond
    simp only [Option.map_some, Option.getD_some, Bool.and_eq_true, Bool.not_eq_true'] at hcond
    obtain ⟨hu, haf⟩ := hcond
    have hu' : listed.getD i false = false := by
      simp only [Array.getD_eq_getD_getElem?] at hu ⊢
      rw [Array.getElem?_eq_getElem (by omega)] at hu ⊢
      simpa using hu
    have ho : ops[i]? = some ops[i] := Array.getElem?_eq_getElem his
    have hlt : left ops (listed.setIfInBounds i true) + 1 = left ops listed := by
      unfold left
      have key : ∀ (l : List Nat), l.Nodup → i ∈ l → ((l.filter fun j => !(listed.setIfInBounds i true).getD j true).length + 1 = (l.filter fun j => !listed.getD j true).length) ∧ True := by
        intro l hn hm
        induction l with
        | nil => cases hm
        | cons y l ihl =>
          have hno : ∀ (l' : List Nat), i ∉ l' → (l'.filter fun j => !(listed.setIfInBounds i true).getD j true) = (l'.filter fun j => !listed.getD j true) := by
            intro l' hni
            apply List.filter_congr
            intro j hj
            have hne : i ≠ j := fun e => hni (by rw [e]; exact hj)
            rw [getD_set _ _ _ _ (by omega), if_neg hne]
          rcases List.mem_cons.1 hm with rfl | hm'
          · have hni : i ∉ l := (List.nodup_cons.1 hn).1
            refine ⟨?_, trivial⟩
            rw [List.filter_cons, List.filter_cons, hno l hni, getD_set _ _ _ _ (by omega), hu]
            simp
          · have hyi : i ≠ y := fun e => (List.nodup_cons.1 hn).1 (e ▸ hm')
            have h3 := (ihl (List.nodup_cons.1 hn).2 hm').1
            refine ⟨?_, trivial⟩
            rw [List.filter_cons, List.filter_cons, getD_set _ _ _ _ (by omega), if_neg hyi]
            by_cases hy : listed.getD y true = true
            · simp [hy]; simpa using h3
            · simp [hy]; simpa using h3
      exact (key _ List.nodup_range (List.mem_range.2 his)).1
    unfold wpOpIn
    rw [ho]
    have hw : Region.wanted ops[i] (yielded ops a.tmps) = true := by simp [Region.wanted, hg i _ ho]
    simp only [hw, if_true]
    refine Oper.wpIn_mono (fun a' w' h' => ?_) (hstep i ops[i] listed a w ho hsz hu' (fun e he hb => ?_) hJ)
    · exact ih _ _ _ (by simp [hsz]) (by omega) h'
    · rw [Array.all_eq_true'] at haf
      have := haf e he
      rw [hb] at this
      simpa using this

/-- THE LAW: J speaks of what is listed, of the values of what is listed, and of the world. -/
theorem wpIn_region_vals {id : Nat} {a : Act} {w : World} (hm : P.follows .mixedOrders = true) (hp : plainOps ops = true) (J : Array Bool → (Nat → Value) → World → Prop) (h0 : ∀ val, J (Array.replicate ops.size false) val w.drew)
    (hstep : ∀ (i : Nat) (o : Oper) (listed : Array Bool) (a' : Act) (w' : World) (val : Nat → Value), ops[i]? = some o → listed.size = ops.size → listed.getD i false = false → (∀ e ∈ o.after, Region.binds .any e = true → listed.getD e.on false = true) → Shape ops a val listed a' → J listed val w' →
      o.wpIn F n P a' w' (fun a'' w'' => ∃ v, a'' = a'.put o.dst v ∧ J (listed.setIfInBounds i true) (fun j => if j = i then v else val j) w'') Q)
    (hend : ∀ (listed : Array Bool) (w' : World) (val : Nat → Value), (∀ i, i < ops.size → listed.getD i false = true) → J listed val w' → Q .normal (finAct ops a val ops.size) w') : (Code.region id ops true).wpIn F n P Q a w := by
  refine wpIn_region_any hm ?_
  have hall : ∀ j d, (Array.replicate ops.size false).getD j d = if j < ops.size then false else d := by
    intro j d
    simp only [Array.getD_eq_getD_getElem?, Array.getElem?_replicate]
    split <;> rfl
  obtain ⟨hg, hord, hdst⟩ := plainOps_spec hp
  refine wpAnyIn_inv (fun listed a' w' => listed.size = ops.size ∧ ∃ val, Shape ops a val listed a' ∧ J listed val w') hg hord (fun i o listed a' w' ho hsz hu haf hJ => ?_) (fun listed a' w' hl hJ => ?_) ops.size _ a _ (by simp) ?_ ⟨by simp, fun _ => undef, ⟨rfl, rfl, fun _ _ => rfl, fun j o d hj _ _ hl => ?_⟩, h0 _⟩
  · obtain ⟨_, val, hS, hJ⟩ := hJ
    refine Oper.wpIn_mono (fun a'' w'' h' => ?_) (hstep i o listed a' w' val ho hsz hu haf hS hJ)
    obtain ⟨v, rfl, h2⟩ := h'
    refine ⟨by simp [hsz], fun j => if j = i then v else val j, ?_, h2⟩
    have hS' : Shape ops a (fun j => if j = i then v else val j) listed a' := ⟨hS.size, hS.defers, hS.base, fun j o' d hj hd hlt hl => by
      have hne : j ≠ i := fun e => by rw [e, hu] at hl; cases hl
      rw [if_neg hne]
      exact hS.set j o' d hj hd hlt hl⟩
    have := hS'.put ho (by have := (Array.getElem?_eq_some_iff.1 ho).1; omega) hdst
    rw [if_pos rfl] at this
    exact this
  · obtain ⟨_, val, hS, hJ⟩ := hJ
    rw [hS.final hl hdst]
    exact hend listed w' val hl hJ
  · unfold left
    rw [List.filter_eq_self.2 (fun i hi => by rw [hall, if_pos (List.mem_range.1 hi)]; rfl), List.length_range]
  · rw [hall] at hl; split at hl <;> cases hl
theorem rep_getD (n j : Nat) : (Array.replicate n false).getD j false = false := by
  simp only [Array.getD_eq_getD_getElem?, Array.getElem?_replicate]
  split <;> rfl
theorem lset {l : Array Bool} {n i j : Nat} (hs : l.size = n) (hi : i < n) : (l.setIfInBounds i true).getD j false = if i = j then true else l.getD j false := getD_set l i j false (by omega)
theorem op_valv {o : Oper} {a : Act} {w : World} {K : Value → World → Prop} (v : Value) (w' : World) (hab : ∀ f, o.about P w a.eval = some f → F.fn f) (hrun : (o.semAt F.round a.eval).run P w = .ok (.value v) w') (hk : K v w') : o.wpIn F n P a w (fun a'' w'' => ∃ v, a'' = a.put o.dst v ∧ K v w'') Q := by
  refine ⟨hab, ?_⟩
  rw [hrun]
  exact ⟨v, rfl, hk⟩
theorem op_skipv {o : Oper} {a : Act} {w : World} {K : Value → World → Prop} (w' : World) (hab : ∀ f, o.about P w a.eval = some f → F.fn f) (hrun : (o.semAt F.round a.eval).run P w = .ok .skip w') (hk : K undef w') : o.wpIn F n P a w (fun a'' w'' => ∃ v, a'' = a.put o.dst v ∧ K v w'') Q := by
  refine ⟨hab, ?_⟩
  rw [hrun]
  exact ⟨undef, rfl, hk⟩
theorem op_callv {o : Oper} {a : Act} {w : World} {K : Value → World → Prop} (f : FuncId) (args : Array Value) (hab : ∀ f, o.about P w a.eval = some f → F.fn f) (hrun : (o.semAt F.round a.eval).run P w = .ok (.enter f args) w) (hn : 1 ≤ n) (hc : CallsIn F (n - 1) P f args w (fun e w' => ∃ v, e = .returned v ∧ K v w')) : o.wpIn F n P a w (fun a'' w'' => ∃ v, a'' = a.put o.dst v ∧ K v w'') Q := by
  refine ⟨hab, ?_⟩
  rw [hrun, Oper.uponIn_enter]
  refine ⟨fun _ => hn, hc.mono ?_⟩
  rintro e w' ⟨v, rfl, hk⟩
  exact ⟨v, rfl, hk⟩
end
end Go.Proofs.YtbegplfijjbpcaaDoor
/- A region that draws its order within a fence, and writes no old cell: what each operation has told stays told. Nothing of the program stands here. -/
namespace Go.Proofs.YtbegplfijjbpcaaDoor
open Go Go.RowKit
section
variable {F : Fence} {n : Nat} {P : Program} {ops : Array Oper} {Q : Exit → Act → World → Prop}
theorem wpIn_region_facts {id : Nat} {a : Act} {w : World} (hm : P.follows .mixedOrders = true) (hp : plainOps ops = true) (Ph : Nat → Value → World → Prop) (hPh : ∀ i v W W', Below W.heap.size W W' → Ph i v W → Ph i v W')
    (hstep : ∀ (i : Nat) (o : Oper) (listed : Array Bool) (a' : Act) (W : World) (val : Nat → Value), ops[i]? = some o → (∀ e ∈ o.after, Region.binds .any e = true → listed.getD e.on false = true) → Shape ops a val listed a' → Below w.heap.size w W → (∀ j, listed.getD j false = true → Ph j (val j) W) →
      o.wpIn F n P a' W (fun a'' W'' => ∃ v, a'' = a'.put o.dst v ∧ Below W.heap.size W W'' ∧ Ph i v W'') Q)
    (hend : ∀ (W : World) (val : Nat → Value), Below w.heap.size w W → (∀ i, i < ops.size → Ph i (val i) W) → Q .normal (finAct ops a val ops.size) W) : (Code.region id ops true).wpIn F n P Q a w := by
  refine wpIn_region_vals hm hp (fun listed val W => Below w.heap.size w W ∧ ∀ j, j < ops.size → listed.getD j false = true → Ph j (val j) W) (fun val => ⟨(Below.refl _ _).drew, fun j _ h => absurd h (by rw [rep_getD]; decide)⟩) (fun i o listed a' W val ho hsz hu haf hS hJ => ?_) (fun listed W val hl hJ => hend W val hJ.1 (fun i hi => hJ.2 i hi (hl i hi)))
  have hi := (Array.getElem?_eq_some_iff.1 ho).1
  have hall : ∀ j, listed.getD j false = true → Ph j (val j) W := fun j hj => by
    refine hJ.2 j ?_ hj
    rw [← hsz]
    rcases Nat.lt_or_ge j listed.size with h | h
    · exact h
    · rw [Array.getD_eq_getD_getElem?, Array.getElem?_eq_none h] at hj
      cases hj
  refine Oper.wpIn_mono (fun a'' W'' h' => ?_) (hstep i o listed a' W val ho haf hS hJ.1 hall)
  obtain ⟨v, rfl, hb, hv⟩ := h'
  refine ⟨v, rfl, hJ.1.trans (hb.mono hJ.1.size), fun j hj hlj => ?_⟩
  rw [lset hsz hi] at hlj
  by_cases e : i = j
  · subst e
    simp only [if_pos]
    exact hv
  · rw [if_neg e] at hlj
    simp only [if_neg (Ne.symm e)]
    exact hPh _ _ _ _ hb (hJ.2 j hj hlj)
end
end Go.Proofs.YtbegplfijjbpcaaDoor
/- A region that draws its order within a fence: some operations, each behind the one ahead, change the world; all others read. Nothing of the program stands here. -/
namespace Go.Proofs.YtbegplfijjbpcaaDoor
open Go
/-- What must come ahead of operation i. -/
def backOf (ops : Array Oper) : Nat → Nat → List Nat
  | 0, _ => []
  | f + 1, i => match ops[i]? with
    | none => []
    | some o => o.after.toList.flatMap fun e => if Region.binds .any e then e.on :: backOf ops f e.on else []
theorem back_listed {ops : Array Oper} {listed : Array Bool} (hc : Closed .any ops listed) : ∀ (f i : Nat) (o : Oper), ops[i]? = some o → (∀ e ∈ o.after, Region.binds .any e = true → listed.getD e.on false = true) → ∀ j ∈ backOf ops f i, listed.getD j false = true
  | 0, _, _, _, _, j, hj => by cases hj
  | f + 1, i, o, ho, haf, j, hj => by
    unfold backOf at hj
    rw [ho] at hj
    obtain ⟨e, he, hje⟩ := List.mem_flatMap.1 hj
    split at hje
    · rename_i hb
      have he' : e ∈ o.after := Array.mem_toList_iff.1 he
      have h1 := haf e he' hb
      rcases List.mem_cons.1 hje with rfl | h2
      · exact h1
      · cases ho2 : ops[e.on]? with
        | none =>
          cases f with
          | zero => cases h2
          | succ f => unfold backOf at h2; rw [ho2] at h2; cases h2
        | some o2 => exact back_listed hc f e.on o2 ho2 (hc e.on o2 ho2 h1) j h2
    · cases hje
def chainOk (ops : Array Oper) (chain : List Nat) : Bool := (chain.zip chain.tail).all fun p => (backOf ops ops.size p.2).contains p.1
section
variable {F : Fence} {n : Nat} {P : Program} {ops : Array Oper} {Q : Exit → Act → World → Prop}
theorem wpIn_region_chain {id : Nat} {a : Act} {w : World} (hm : P.follows .mixedOrders = true) (hp : plainOps ops = true) (chain : List Nat) (hck : chainOk ops chain = true) (hnd : chain.Nodup) (hsz : ∀ i ∈ chain, i < ops.size)
    (Ph : Nat → Value → Prop) (Ps : Nat → (Nat → Value) → World → Prop) (h0 : ∀ val, Ps 0 val w.drew)
    (hPs : ∀ k val val' W, (∀ m i, m < k → chain[m]? = some i → val i = val' i) → Ps k val W → Ps k val' W)
    (hplain : ∀ (i : Nat) (o : Oper) (listed : Array Bool) (a' : Act) (W : World) (val : Nat → Value) (k : Nat), ops[i]? = some o → i ∉ chain → (∀ e ∈ o.after, Region.binds .any e = true → listed.getD e.on false = true) → Shape ops a val listed a' → (∀ j, listed.getD j false = true → j ∉ chain → Ph j (val j)) →
      (∀ m j, chain[m]? = some j → (backOf ops ops.size j).contains i = true → k ≤ m) → (∀ m j, chain[m]? = some j → listed.getD j false = true → m < k) → Ps k val W →
      (∀ f, o.about P W a'.eval = some f → F.fn f) ∧ ∃ r v, (o.semAt F.round a'.eval).run P W = .ok r W ∧ (r = .value v ∨ (r = .skip ∧ v = undef)) ∧ Ph i v)
    (hchain : ∀ (m i : Nat) (o : Oper) (listed : Array Bool) (a' : Act) (W : World) (val : Nat → Value), ops[i]? = some o → chain[m]? = some i → (∀ e ∈ o.after, Region.binds .any e = true → listed.getD e.on false = true) → Shape ops a val listed a' → (∀ j, listed.getD j false = true → j ∉ chain → Ph j (val j)) → Ps m val W →
      o.wpIn F n P a' W (fun a'' W'' => ∃ v, a'' = a'.put o.dst v ∧ Ps (m + 1) (fun j => if j = i then v else val j) W'') Q)
    (hend : ∀ (W : World) (val : Nat → Value), Ps chain.length val W → (∀ j, j < ops.size → j ∉ chain → Ph j (val j)) → Q .normal (finAct ops a val ops.size) W) : (Code.region id ops true).wpIn F n P Q a w := by
  have hpre : ∀ m j i, chain[m]? = some j → chain[m + 1]? = some i → j ∈ backOf ops ops.size i := fun m j i h1 h2 => by
    unfold chainOk at hck
    rw [List.all_eq_true] at hck
    have hz : (chain.zip chain.tail)[m]? = some (j, i) := by
      rw [List.getElem?_zip_eq_some]
      exact ⟨h1, by rw [List.getElem?_tail]; exact h2⟩
    have := hck (j, i) (List.mem_of_getElem? hz)
    exact List.contains_iff_mem.1 this
  refine wpIn_region_vals hm hp (fun listed val W => listed.size = ops.size ∧ Closed .any ops listed ∧ (∀ j, listed.getD j false = true → j ∉ chain → Ph j (val j)) ∧ ∃ k, k ≤ chain.length ∧ (∀ m j, chain[m]? = some j → (listed.getD j false = true ↔ m < k)) ∧ Ps k val W) (fun val => ⟨by simp, fun j o ho hl => absurd hl (by rw [rep_getD]; decide), fun j hl => absurd hl (by rw [rep_getD]; decide), 0, Nat.zero_le _, fun m j _ => ⟨fun h => absurd h (by rw [rep_getD]; decide), fun h => by omega⟩, h0 val⟩) (fun i o listed a' W val ho hs hu haf hS hJ => ?_) (fun listed W val hl hJ => ?_)
  · obtain ⟨_, hcl, hF, k, hk, hkl, hps⟩ := hJ
    have hi := (Array.getElem?_eq_some_iff.1 ho).1
    have hset : ∀ j, (listed.setIfInBounds i true).getD j false = if i = j then true else listed.getD j false := fun j => lset hs hi
    have hcl' : Closed .any ops (listed.setIfInBounds i true) := fun j o' ho' hlj e he hb => by
      rw [hset] at hlj ⊢
      by_cases e1 : i = j
      · subst e1
        rw [ho] at ho'
        cases ho'
        split
        · rfl
        · exact haf e he hb
      · rw [if_neg e1] at hlj
        split
        · rfl
        · exact hcl j o' ho' hlj e he hb
    by_cases hc : i ∈ chain
    · obtain ⟨m, hm2⟩ := List.mem_iff_getElem?.1 hc
      have hkm : k = m := by
        have h1 : ¬ m < k := fun h => by rw [(hkl m i hm2).2 h] at hu; cases hu
        cases m with
        | zero => omega
        | succ m =>
          obtain ⟨j, hj⟩ : ∃ j, chain[m]? = some j := ⟨_, List.getElem?_eq_getElem (by have := (List.getElem?_eq_some_iff.1 hm2).1; omega)⟩
          have := (hkl m j hj).1 (back_listed hcl _ i o ho haf j (hpre m j i hj hm2))
          omega
      subst hkm
      refine Oper.wpIn_mono (fun a'' W'' h' => ?_) (hchain k i o listed a' W val ho hm2 haf hS hF hps)
      obtain ⟨v, rfl, hv⟩ := h'
      refine ⟨v, rfl, by simp [hs], hcl', fun j hlj hjc => ?_, k + 1, by have := (List.getElem?_eq_some_iff.1 hm2).1; omega, fun m j hmj => ?_, hv⟩
      · have hne : i ≠ j := fun e => hjc (e ▸ hc)
        rw [hset, if_neg hne] at hlj
        simp only [if_neg (Ne.symm hne)]
        exact hF j hlj hjc
      · rw [hset]
        by_cases e : i = j
        · subst e
          rw [if_pos rfl]
          have hml := (List.getElem?_eq_some_iff.1 hmj).1
          have : m = k := (List.getElem?_inj hml hnd).1 (hmj.trans hm2.symm)
          exact ⟨fun _ => by omega, fun _ => rfl⟩
        · rw [if_neg e, hkl m j hmj]
          constructor
          · intro h; omega
          · intro h
            rcases Nat.lt_or_ge m k with h1 | h1
            · exact h1
            · obtain rfl : m = k := by omega
              rw [hmj] at hm2
              cases hm2
              exact absurd rfl e
    · obtain ⟨h1, r, v, h2, h3, h4⟩ := hplain i o listed a' W val k ho hc haf hS hF (fun m j hmj hbk => by
        rcases Nat.lt_or_ge m k with h | h
        · have hlj := (hkl m j hmj).2 h
          obtain ⟨oj, hoj⟩ : ∃ oj, ops[j]? = some oj := ⟨_, Array.getElem?_eq_getElem (hsz j (List.mem_of_getElem? hmj))⟩
          have := back_listed hcl _ j oj hoj (hcl j oj hoj hlj) i (List.contains_iff_mem.1 hbk)
          rw [this] at hu
          cases hu
        · exact h) (fun m j hmj hlj => (hkl m j hmj).1 hlj) hps
      have hnew : (listed.setIfInBounds i true).size = ops.size ∧ Closed .any ops (listed.setIfInBounds i true) ∧ (∀ j, (listed.setIfInBounds i true).getD j false = true → j ∉ chain → Ph j ((fun j => if j = i then v else val j) j)) ∧ ∃ k, k ≤ chain.length ∧ (∀ m j, chain[m]? = some j → ((listed.setIfInBounds i true).getD j false = true ↔ m < k)) ∧ Ps k (fun j => if j = i then v else val j) W := by
        refine ⟨by simp [hs], hcl', fun j hlj hjc => ?_, k, hk, fun m j hmj => ?_, hPs k val _ W (fun m j _ hmj => ?_) hps⟩
        · by_cases e : j = i
          · subst e
            simp only [if_pos]
            exact h4
          · simp only [if_neg e]
            rw [hset, if_neg (Ne.symm e)] at hlj
            exact hF j hlj hjc
        · have hne : i ≠ j := fun e => hc (e ▸ List.mem_of_getElem? hmj)
          rw [hset, if_neg hne]
          exact hkl m j hmj
        · have hne : j ≠ i := fun e => hc (e ▸ List.mem_of_getElem? hmj)
          simp only [if_neg hne]
      rcases h3 with rfl | ⟨rfl, rfl⟩
      · exact op_valv v W h1 h2 hnew
      · exact op_skipv W h1 h2 hnew
  · obtain ⟨_, _, hF, k, hk, hkl, hps⟩ := hJ
    have hke : k = chain.length := by
      rcases Nat.lt_or_ge k chain.length with h | h
      · obtain ⟨j, hj⟩ : ∃ j, chain[k]? = some j := ⟨_, List.getElem?_eq_getElem h⟩
        have := (hkl k j hj).1 (hl j (hsz j (List.mem_of_getElem? hj)))
        omega
      · omega
    subst hke
    exact hend W val hps (fun j hj hjc => hF j (hl j hj) hjc)
end
end Go.Proofs.YtbegplfijjbpcaaDoor
/- As wpIn_region_chain (XNqChain), where what does not change the world may be a call. Nothing of the program stands here. -/
namespace Go.Proofs.YtbegplfijjbpcaaDoor
open Go
section
variable {F : Fence} {n : Nat} {P : Program} {ops : Array Oper} {Q : Exit → Act → World → Prop}
theorem wpIn_region_chainC {id : Nat} {a : Act} {w : World} (hm : P.follows .mixedOrders = true) (hp : plainOps ops = true) (chain : List Nat) (hck : chainOk ops chain = true) (hnd : chain.Nodup) (hsz : ∀ i ∈ chain, i < ops.size)
    (Ph : Nat → Value → Prop) (Ps : Nat → (Nat → Value) → World → Prop) (h0 : ∀ val, Ps 0 val w.drew)
    (hPs : ∀ k val val' W, (∀ m i, m < k → chain[m]? = some i → val i = val' i) → Ps k val W → Ps k val' W)
    (hplain : ∀ (i : Nat) (o : Oper) (listed : Array Bool) (a' : Act) (W : World) (val : Nat → Value) (k : Nat), ops[i]? = some o → i ∉ chain → (∀ e ∈ o.after, Region.binds .any e = true → listed.getD e.on false = true) → Shape ops a val listed a' → (∀ j, listed.getD j false = true → j ∉ chain → Ph j (val j)) →
      (∀ m j, chain[m]? = some j → (backOf ops ops.size j).contains i = true → k ≤ m) → (∀ m j, chain[m]? = some j → listed.getD j false = true → m < k) → Ps k val W →
      o.wpIn F n P a' W (fun a'' W'' => ∃ v, a'' = a'.put o.dst v ∧ W'' = W ∧ Ph i v) Q)
    (hchain : ∀ (m i : Nat) (o : Oper) (listed : Array Bool) (a' : Act) (W : World) (val : Nat → Value), ops[i]? = some o → chain[m]? = some i → (∀ e ∈ o.after, Region.binds .any e = true → listed.getD e.on false = true) → Shape ops a val listed a' → (∀ j, listed.getD j false = true → j ∉ chain → Ph j (val j)) → Ps m val W →
      o.wpIn F n P a' W (fun a'' W'' => ∃ v, a'' = a'.put o.dst v ∧ Ps (m + 1) (fun j => if j = i then v else val j) W'') Q)
    (hend : ∀ (W : World) (val : Nat → Value), Ps chain.length val W → (∀ j, j < ops.size → j ∉ chain → Ph j (val j)) → Q .normal (finAct ops a val ops.size) W) : (Code.region id ops true).wpIn F n P Q a w := by
  have hpre : ∀ m j i, chain[m]? = some j → chain[m + 1]? = some i → j ∈ backOf ops ops.size i := fun m j i h1 h2 => by
    unfold chainOk at hck
    rw [List.all_eq_true] at hck
    have hz : (chain.zip chain.tail)[m]? = some (j, i) := by
      rw [List.getElem?_zip_eq_some]
      exact ⟨h1, by rw [List.getElem?_tail]; exact h2⟩
    have := hck (j, i) (List.mem_of_getElem? hz)
    exact List.contains_iff_mem.1 this
  refine wpIn_region_vals hm hp (fun listed val W => listed.size = ops.size ∧ Closed .any ops listed ∧ (∀ j, listed.getD j false = true → j ∉ chain → Ph j (val j)) ∧ ∃ k, k ≤ chain.length ∧ (∀ m j, chain[m]? = some j → (listed.getD j false = true ↔ m < k)) ∧ Ps k val W) (fun val => ⟨by simp, fun j o ho hl => absurd hl (by rw [rep_getD]; decide), fun j hl => absurd hl (by rw [rep_getD]; decide), 0, Nat.zero_le _, fun m j _ => ⟨fun h => absurd h (by rw [rep_getD]; decide), fun h => by omega⟩, h0 val⟩) (fun i o listed a' W val ho hs hu haf hS hJ => ?_) (fun listed W val hl hJ => ?_)
  · obtain ⟨_, hcl, hF, k, hk, hkl, hps⟩ := hJ
    have hi := (Array.getElem?_eq_some_iff.1 ho).1
    have hset : ∀ j, (listed.setIfInBounds i true).getD j false = if i = j then true else listed.getD j false := fun j => lset hs hi
    have hcl' : Closed .any ops (listed.setIfInBounds i true) := fun j o' ho' hlj e he hb => by
      rw [hset] at hlj ⊢
      by_cases e1 : i = j
      · subst e1
        rw [ho] at ho'
        cases ho'
        split
        · rfl
        · exact haf e he hb
      · rw [if_neg e1] at hlj
        split
        · rfl
        · exact hcl j o' ho' hlj e he hb
    by_cases hc : i ∈ chain
    · obtain ⟨m, hm2⟩ := List.mem_iff_getElem?.1 hc
      have hkm : k = m := by
        have h1 : ¬ m < k := fun h => by rw [(hkl m i hm2).2 h] at hu; cases hu
        cases m with
        | zero => omega
        | succ m =>
          obtain ⟨j, hj⟩ : ∃ j, chain[m]? = some j := ⟨_, List.getElem?_eq_getElem (by have := (List.getElem?_eq_some_iff.1 hm2).1; omega)⟩
          have := (hkl m j hj).1 (back_listed hcl _ i o ho haf j (hpre m j i hj hm2))
          omega
      subst hkm
      refine Oper.wpIn_mono (fun a'' W'' h' => ?_) (hchain k i o listed a' W val ho hm2 haf hS hF hps)
      obtain ⟨v, rfl, hv⟩ := h'
      refine ⟨v, rfl, by simp [hs], hcl', fun j hlj hjc => ?_, k + 1, by have := (List.getElem?_eq_some_iff.1 hm2).1; omega, fun m j hmj => ?_, hv⟩
      · have hne : i ≠ j := fun e => hjc (e ▸ hc)
        rw [hset, if_neg hne] at hlj
        simp only [if_neg (Ne.symm hne)]
        exact hF j hlj hjc
      · rw [hset]
        by_cases e : i = j
        · subst e
          rw [if_pos rfl]
          have hml := (List.getElem?_eq_some_iff.1 hmj).1
          have : m = k := (List.getElem?_inj hml hnd).1 (hmj.trans hm2.symm)
          exact ⟨fun _ => by omega, fun _ => rfl⟩
        · rw [if_neg e, hkl m j hmj]
          constructor
          · intro h; omega
          · intro h
            rcases Nat.lt_or_ge m k with h1 | h1
            · exact h1
            · obtain rfl : m = k := by omega
              rw [hmj] at hm2
              cases hm2
              exact absurd rfl e
    · refine Oper.wpIn_mono (fun a'' W'' h' => ?_) (hplain i o listed a' W val k ho hc haf hS hF (fun m j hmj hbk => by
        rcases Nat.lt_or_ge m k with h | h
        · have hlj := (hkl m j hmj).2 h
          obtain ⟨oj, hoj⟩ : ∃ oj, ops[j]? = some oj := ⟨_, Array.getElem?_eq_getElem (hsz j (List.mem_of_getElem? hmj))⟩
          have := back_listed hcl _ j oj hoj (hcl j oj hoj hlj) i (List.contains_iff_mem.1 hbk)
          rw [this] at hu
          cases hu
        · exact h) (fun m j hmj hlj => (hkl m j hmj).1 hlj) hps)
      obtain ⟨v, rfl, rfl, h4⟩ := h'
      have hnew : (listed.setIfInBounds i true).size = ops.size ∧ Closed .any ops (listed.setIfInBounds i true) ∧ (∀ j, (listed.setIfInBounds i true).getD j false = true → j ∉ chain → Ph j ((fun j => if j = i then v else val j) j)) ∧ ∃ k, k ≤ chain.length ∧ (∀ m j, chain[m]? = some j → ((listed.setIfInBounds i true).getD j false = true ↔ m < k)) ∧ Ps k (fun j => if j = i then v else val j) W'' := by
        refine ⟨by simp [hs], hcl', fun j hlj hjc => ?_, k, hk, fun m j hmj => ?_, hPs k val _ W'' (fun m j _ hmj => ?_) hps⟩
        · by_cases e : j = i
          · subst e
            simp only [if_pos]
            exact h4
          · simp only [if_neg e]
            rw [hset, if_neg (Ne.symm e)] at hlj
            exact hF j hlj hjc
        · have hne : i ≠ j := fun e => hc (e ▸ List.mem_of_getElem? hmj)
          rw [hset, if_neg hne]
          exact hkl m j hmj
        · have hne : j ≠ i := fun e => hc (e ▸ List.mem_of_getElem? hmj)
          simp only [if_neg hne]
      exact ⟨v, rfl, hnew⟩
  · obtain ⟨_, _, hF, k, hk, hkl, hps⟩ := hJ
    have hke : k = chain.length := by
      rcases Nat.lt_or_ge k chain.length with h | h
      · obtain ⟨j, hj⟩ : ∃ j, chain[k]? = some j := ⟨_, List.getElem?_eq_getElem h⟩
        have := (hkl k j hj).1 (hl j (hsz j (List.mem_of_getElem? hj)))
        omega
      · omega
    subst hke
    exact hend W val hps (fun j hj hjc => hF j (hl j hj) hjc)
end
end Go.Proofs.YtbegplfijjbpcaaDoor
