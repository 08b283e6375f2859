/- XDet2 once more, in a namespace of its own, and with an operation among the first ones that lays new memory. Nothing of the program stands here. -/
import Derived.Test.YtbegplfijjbpcaaDoorDet
namespace Go.Proofs.YtbegplfijjbpcaaDoor.Ear
open Go

section
variable {F : Fence} {n : Nat} {P : Program} {ops : Array Oper} {Q : Exit → Act → World → Prop} {md : Region.Mode}

theorem ready_nil (hord : ∀ (i : Nat) (o : Oper) (e : Edge), ops[i]? = some o → e ∈ o.after → Region.binds md e = true → e.on < i) (listed : Array Bool) (hsz : listed.size = ops.size) (hr : Region.ready md ops listed = []) : ∀ i, i < ops.size → listed.getD i false = true := by
  have hall : ∀ k i, i < k → i < ops.size → listed.getD i false = true := by
    intro k
    induction k with
    | zero => intro i hi; omega
    | succ k ih =>
      intro i hi his
      rcases Nat.lt_or_ge i k with hlt | hge
      · exact ih i hlt his
      · obtain rfl : i = k := by omega
        apply Classical.byContradiction
        intro hn
        have hmem : i ∈ Region.ready md ops listed := by
          unfold Region.ready
          rw [List.mem_filter]
          refine ⟨List.mem_range.2 his, ?_⟩
          have hx : listed.getD i true = false := by
            simp only [Array.getD_eq_getD_getElem?] at hn ⊢
            rw [Array.getElem?_eq_getElem (by omega)] at hn ⊢
            simpa using hn
          rw [hx, Array.getElem?_eq_getElem his]
          simp only [Bool.not_false, Bool.true_and, Option.map_some, Option.getD_some, Array.all_eq_true]
          intro e he
          cases hb : Region.binds md ops[i].after[e] with
          | false => simp
          | true =>
            have h1 := hord i ops[i] _ (Array.getElem?_eq_getElem his) (Array.getElem_mem he) hb
            rw [ih _ h1 (by omega)]
            simp
        rw [hr] at hmem
        cases hmem
  exact fun i hi => hall (i + 1) i (by omega) hi
theorem left_set {listed : Array Bool} {i : Nat} (hsz : listed.size = ops.size) (his : i < ops.size) (hu : listed.getD i true = false) : left ops (listed.setIfInBounds i true) + 1 = left ops listed := by
    unfold left
    have key : ∀ (l : List Nat), l.Nodup → i ∈ l → ((l.filter fun j => !(listed.setIfInBounds i true).getD j true).length + 1 = (l.filter fun j => !listed.getD j true).length) ∧ True := by
      intro l hn hm
      induction l with
      | nil => cases hm
      | cons y l ihl =>
        have hno : ∀ (l' : List Nat), i ∉ l' → (l'.filter fun j => !(listed.setIfInBounds i true).getD j true) = (l'.filter fun j => !listed.getD j true) := by
          intro l' hni
          apply List.filter_congr
          intro j hj
          have hne : i ≠ j := fun e => hni (by rw [e]; exact hj)
          rw [getD_set _ _ _ _ (by omega), if_neg hne]
        rcases List.mem_cons.1 hm with rfl | hm'
        · have hni : i ∉ l := (List.nodup_cons.1 hn).1
          refine ⟨?_, trivial⟩
          rw [List.filter_cons, List.filter_cons, hno l hni, getD_set _ _ _ _ (by omega), hu]
          simp
        · have hyi : i ≠ y := fun e => (List.nodup_cons.1 hn).1 (e ▸ hm')
          have h3 := (ihl (List.nodup_cons.1 hn).2 hm').1
          refine ⟨?_, trivial⟩
          rw [List.filter_cons, List.filter_cons, getD_set _ _ _ _ (by omega), if_neg hyi]
          by_cases hy : listed.getD y true = true
          · simp [hy]; simpa using h3
          · simp [hy]; simpa using h3
    exact (key _ List.nodup_range (List.mem_range.2 his)).1

/-- What comes ahead of an operation, some steps back. -/
def ahead (md : Region.Mode) (ops : Array Oper) : Nat → Nat → List Nat
  | 0, _ => []
  | f + 1, i => match ops[i]? with
    | some o => (o.after.toList.filter (Region.binds md ·)).flatMap fun e => e.on :: ahead md ops f e.on
    | none => []
/-- All the first m operations come ahead of each later one. -/
def lateOps (md : Region.Mode) (ops : Array Oper) (m : Nat) : Bool := (List.range ops.size).all fun i => decide (i < m) || (List.range m).all fun j => (ahead md ops ops.size i).contains j
theorem ahead_listed {listed : Array Bool} (hcl : Closed md ops listed) : ∀ (f i : Nat) (o : Oper), ops[i]? = some o → (∀ e ∈ o.after, Region.binds md e = true → listed.getD e.on false = true) → ∀ j ∈ ahead md ops f i, j < ops.size → listed.getD j false = true
  | 0, _, _, _, _, _, hj, _ => by cases hj
  | f + 1, i, o, ho, haf, j, hj, hjs => by
    unfold ahead at hj
    rw [ho] at hj
    obtain ⟨e, he, hje⟩ := List.mem_flatMap.1 hj
    rw [List.mem_filter] at he
    have h1 := haf e (Array.mem_def.2 he.1) he.2
    rcases List.mem_cons.1 hje with rfl | hje
    · exact h1
    · cases hoe : ops[e.on]? with
      | none =>
        exfalso
        cases f with
        | zero => cases hje
        | succ f => unfold ahead at hje; rw [hoe] at hje; cases hje
      | some o' => exact ahead_listed hcl f e.on o' hoe (hcl e.on o' hoe h1) j hje hjs
theorem late_of {m : Nat} (hm : m ≤ ops.size) (h : lateOps md ops m = true) : ∀ (i : Nat) (o : Oper) (listed : Array Bool), m ≤ i → ops[i]? = some o → Closed md ops listed → (∀ e ∈ o.after, Region.binds md e = true → listed.getD e.on false = true) → ∀ j, j < m → listed.getD j false = true := by
  intro i o listed hmi ho hcl haf j hj
  unfold lateOps at h
  rw [List.all_eq_true] at h
  have h1 := h i (List.mem_range.2 (Array.getElem?_eq_some_iff.1 ho).1)
  rw [Bool.or_eq_true, decide_eq_true_eq] at h1
  rcases h1 with h1 | h1
  · omega
  · rw [List.all_eq_true] at h1
    have h2 := h1 j (List.mem_range.2 hj)
    exact ahead_listed hcl _ i o ho haf j (List.contains_iff_mem.1 h2) (by omega)

theorem wpAnyIn_early (m : Nat) (hm : m ≤ ops.size) (a0 : Act) (val : Nat → Value) (wd : Array Bool → World)
    (hg : ∀ (i : Nat) (o : Oper), ops[i]? = some o → o.guard = none)
    (hord : ∀ (i : Nat) (o : Oper) (e : Edge), ops[i]? = some o → e ∈ o.after → Region.binds md e = true → e.on < i)
    (hdst : ∀ (i j : Nat) (o o' : Oper) (d : Tmp), ops[i]? = some o → ops[j]? = some o' → o.dst = some d → o'.dst = some d → i = j)
    (hlate : lateOps md ops m = true)
    (hstep : ∀ (i : Nat) (o : Oper) (listed : Array Bool) (a : Act), i < m → ops[i]? = some o → listed.size = ops.size → listed.getD i false = false → (∀ e ∈ o.after, Region.binds md e = true → listed.getD e.on false = true) → Closed md ops listed → Shape ops a0 val listed a →
      (∀ f, o.about P (wd listed) a.eval = some f → F.fn f) ∧ ∃ r, (o.semAt F.round a.eval).run P (wd listed) = .ok r (wd (listed.setIfInBounds i true)) ∧ (r = .value (val i) ∨ (r = .skip ∧ val i = undef)))
    (hend : ∀ (listed : Array Bool) (a : Act), listed.size = ops.size → (∀ i, i < m → listed.getD i false = true) → (∀ i, m ≤ i → listed.getD i false = false) → Shape ops a0 val listed a → (∀ (j : Nat) (o : Oper) (d : Tmp), m ≤ j → ops[j]? = some o → o.dst = some d → a.tmps[d]? = a0.tmps[d]?) → wpAnyIn F n P md ops Q (left ops listed) listed a (wd listed)) :
    ∀ (fuel : Nat) (listed : Array Bool) (a : Act), listed.size = ops.size → left ops listed = fuel → (∀ i, m ≤ i → listed.getD i false = false) → Closed md ops listed → Shape ops a0 val listed a → (∀ (j : Nat) (o : Oper) (d : Tmp), m ≤ j → ops[j]? = some o → o.dst = some d → a.tmps[d]? = a0.tmps[d]?) → wpAnyIn F n P md ops Q fuel listed a (wd listed) := by
  intro fuel
  induction fuel with
  | zero =>
    intro listed a hsz hl hno hcl hS hB
    have hall : ∀ i, i < ops.size → listed.getD i true = true := by
      intro i hi
      have := List.eq_nil_of_length_eq_zero hl
      rw [List.filter_eq_nil_iff] at this
      simpa using this i (List.mem_range.2 hi)
    have hall2 : ∀ i, i < m → listed.getD i false = true := fun i hi => by
      have := hall i (by omega)
      simp only [Array.getD_eq_getD_getElem?] at this ⊢
      rw [Array.getElem?_eq_getElem (by omega)] at this ⊢
      exact this
    have := hend listed a hsz hall2 hno hS hB
    rw [hl] at this
    exact this
  | succ fuel ih =>
    intro listed a hsz hl hno hcl hS hB
    by_cases hall : ∀ i, i < m → listed.getD i false = true
    · have := hend listed a hsz hall hno hS hB
      rw [hl] at this
      exact this
    refine ⟨fun hr => (hall (fun i hi => ready_nil hord listed hsz hr i (by omega))).elim, fun i hi => ?_⟩
    unfold Region.ready at hi
    rw [List.mem_filter, List.mem_range] at hi
    obtain ⟨his, hcond⟩ := hi
    rw [Array.getElem?_eq_getElem his] at hcond
    simp only [Option.map_some, Option.getD_some, Bool.and_eq_true, Bool.not_eq_true'] at hcond
    obtain ⟨hu, haf⟩ := hcond
    have hu' : listed.getD i false = false := by
      simp only [Array.getD_eq_getD_getElem?] at hu ⊢
      rw [Array.getElem?_eq_getElem (by omega)] at hu ⊢
      simpa using hu
    have ho : ops[i]? = some ops[i] := Array.getElem?_eq_getElem his
    have haf' : ∀ e ∈ ops[i].after, Region.binds md e = true → listed.getD e.on false = true := fun e he hb => by
      rw [Array.all_eq_true'] at haf
      have := haf e he
      rw [hb] at this
      simpa using this
    have him : i < m := by
      rcases Nat.lt_or_ge i m with h | h
      · exact h
      · exact (hall (late_of hm hlate i ops[i] listed h ho hcl haf')).elim
    obtain ⟨hab, r, hrun, hr⟩ := hstep i ops[i] listed a him ho hsz hu' haf' hcl hS
    have hcl' : Closed md ops (listed.setIfInBounds i true) := by
      intro j o hj hl' e he hb
      rw [getD_set _ _ _ _ (by omega)] at hl' ⊢
      by_cases hie : i = e.on
      · rw [if_pos hie]
      · rw [if_neg hie]
        by_cases hij : i = j
        · subst hij
          rw [ho] at hj; cases hj
          exact haf' e he hb
        · rw [if_neg hij] at hl'
          exact hcl j o hj hl' e he hb
    have hnext : wpAnyIn F n P md ops Q fuel (listed.setIfInBounds i true) (a.put ops[i].dst (val i)) (wd (listed.setIfInBounds i true)) := by
      refine ih _ _ (by simp [hsz]) ?_ (fun j hj => ?_) hcl' (hS.put ho (by omega) hdst) (fun j o d hj hoj hd => ?_)
      · have hlt := left_set hsz his hu
        omega
      · rw [getD_set _ _ _ _ (by omega), if_neg (by omega)]
        exact hno j hj
      · rw [← hB j o d hj hoj hd]
        cases hdk : ops[i].dst with
        | none => rfl
        | some d0 =>
          simp only [Act.put]
          rw [Array.getElem?_setIfInBounds_ne (fun e => by
            have := hdst i j _ _ d ho hoj (by rw [hdk, e]) hd
            omega)]
    unfold wpOpIn
    rw [ho]
    have hw : Region.wanted ops[i] (yielded ops a.tmps) = true := by simp [Region.wanted, hg i _ ho]
    simp only [hw, if_true]
    refine ⟨hab, ?_⟩
    rw [hrun]
    rcases hr with rfl | ⟨rfl, hv⟩
    · exact hnext
    · rw [hv] at hnext; exact hnext

/-- The frame behind the first m. -/
theorem Shape.early {a0 a : Act} {val : Nat → Value} {l : Array Bool} {m : Nat} (hm : m ≤ ops.size) (h : Shape ops a0 val l a) (hl : ∀ i, i < m → l.getD i false = true)
    (hdst : ∀ (i j : Nat) (o o' : Oper) (d : Tmp), ops[i]? = some o → ops[j]? = some o' → o.dst = some d → o'.dst = some d → i = j)
    (hb : ∀ (j : Nat) (o : Oper) (d : Tmp), m ≤ j → ops[j]? = some o → o.dst = some d → a.tmps[d]? = a0.tmps[d]?) : a = finAct ops a0 val m := by
  have key : ∀ k, k ≤ m → ∃ l' : Array Bool, l'.size = ops.size ∧ (∀ i, i < k → l'.getD i false = true) ∧ (∀ i, k ≤ i → l'.getD i false = false) ∧ Shape ops a0 val l' (finAct ops a0 val k) ∧ ∀ (j : Nat) (o : Oper) (d : Tmp), k ≤ j → ops[j]? = some o → o.dst = some d → (finAct ops a0 val k).tmps[d]? = a0.tmps[d]? := by
    intro k
    induction k with
    | zero =>
      intro _
      have hz : ∀ j, (Array.replicate ops.size false).getD j false = false := by
        intro j
        simp only [Array.getD_eq_getD_getElem?, Array.getElem?_replicate]
        split <;> rfl
      refine ⟨Array.replicate ops.size false, by simp, fun i hi => by omega, fun i _ => hz i, ⟨rfl, rfl, fun _ _ => rfl, fun j o d hj _ _ hl => ?_⟩, fun _ _ _ _ _ _ => rfl⟩
      rw [hz] at hl; cases hl
    | succ k ih =>
      intro hk
      obtain ⟨l', h1, h2, h3, h4, h5⟩ := ih (by omega)
      have ho : ops[k]? = some ops[k] := Array.getElem?_eq_getElem (by omega)
      refine ⟨l'.setIfInBounds k true, by simp [h1], fun i hi => ?_, fun i hi => ?_, ?_, fun j o d hj hoj hd => ?_⟩
      · rw [getD_set _ _ _ _ (by omega)]
        split
        · rfl
        · exact h2 i (by omega)
      · rw [getD_set _ _ _ _ (by omega), if_neg (by omega)]
        exact h3 i (by omega)
      · simp only [finAct, ho]
        exact h4.put ho (by omega) hdst
      · simp only [finAct, ho]
        rw [← h5 j o d (by omega) hoj hd]
        cases hdk : ops[k].dst with
        | none => rfl
        | some d0 =>
          simp only [Act.put]
          rw [Array.getElem?_setIfInBounds_ne (fun e => by
            have := hdst k j _ _ d ho hoj (by rw [hdk, e]) hd
            omega)]
  obtain ⟨l', h1, h2, h3, h4, h5⟩ := key m (Nat.le_refl _)
  have e1 : a.tmps = (finAct ops a0 val m).tmps := by
    apply Array.ext_getElem?
    intro t
    by_cases hx : ∃ (j : Nat) (o : Oper), ops[j]? = some o ∧ o.dst = some t
    · obtain ⟨j, o, ho, hd⟩ := hx
      by_cases hjm : j < m
      · by_cases ht : t < a0.tmps.size
        · exact (h.set j o t ho hd ht (hl j hjm)).trans (h4.set j o t ho hd ht (h2 j hjm)).symm
        · have s1 := h.size
          have s2 := h4.size
          rw [Array.getElem?_eq_none (by omega), Array.getElem?_eq_none (by omega)]
      · rw [hb j o t (by omega) ho hd, h5 j o t (by omega) ho hd]
    · have hn : ∀ (j : Nat) (o : Oper), ops[j]? = some o → o.dst ≠ some t := fun j o ho hd => hx ⟨j, o, ho, hd⟩
      exact (h.base t hn).trans (h4.base t hn).symm
  have e2 : a.defers = (finAct ops a0 val m).defers := h.defers.trans h4.defers.symm
  cases a
  cases hf : finAct ops a0 val m
  rw [hf] at e1 e2
  simp only at e1 e2
  rw [e1, e2]

/-- The first k are listed. -/
def firstK (ops : Array Oper) (k : Nat) : Array Bool := ((List.range ops.size).map fun i => decide (i < k)).toArray
theorem firstK_get (ops : Array Oper) (k i : Nat) (hk : k ≤ ops.size) : (firstK ops k).getD i false = decide (i < k) := by
  unfold firstK
  simp only [Array.getD_eq_getD_getElem?, List.getElem?_toArray, List.getElem?_map]
  by_cases hi : i < ops.size
  · rw [List.getElem?_range hi]; rfl
  · rw [List.getElem?_eq_none (by simp; omega)]
    simp; omega
theorem firstK_size (ops : Array Oper) (k : Nat) : (firstK ops k).size = ops.size := by simp [firstK]
theorem firstK_set (ops : Array Oper) (k : Nat) (hk : k < ops.size) : (firstK ops k).setIfInBounds k true = firstK ops (k + 1) := by
  apply Array.ext_getElem?
  intro i
  by_cases hi : i < ops.size
  · have e : ∀ (l : Array Bool), l.size = ops.size → l[i]? = some (l.getD i false) := fun l hl => by
      simp only [Array.getD_eq_getD_getElem?]
      rw [Array.getElem?_eq_getElem (by omega)]
      rfl
    rw [e _ (by rw [Array.size_setIfInBounds, firstK_size]), e _ (firstK_size _ _), getD_set _ _ _ _ (by rw [firstK_size]; exact hk), firstK_get _ _ _ (by omega), firstK_get _ _ _ (by omega)]
    congr 1
    by_cases h : k = i
    · rw [if_pos h]; simp; omega
    · rw [if_neg h]; congr 1; exact propext ⟨fun h => by omega, fun h => by omega⟩
  · rw [Array.getElem?_eq_none (by rw [Array.size_setIfInBounds, firstK_size]; omega), Array.getElem?_eq_none (by rw [firstK_size]; omega)]
/-- From the m-th on they come one behind the other. -/
def chainOps (md : Region.Mode) (ops : Array Oper) (m : Nat) : Bool :=
  (List.range (ops.size - m)).all (fun d => Region.ready md ops (firstK ops (m + d)) == [m + d]) && (Region.ready md ops (firstK ops ops.size) == [])
theorem wpAnyIn_chain {m : Nat} (h : chainOps md ops m = true) : ∀ (d k : Nat) (a : Act) (w : World), d = ops.size - k → m ≤ k → k ≤ ops.size → wpListIn F n P ops Q (ops.toList.drop k) a w → wpAnyIn F n P md ops Q d (firstK ops k) a w := by
  unfold chainOps at h
  rw [Bool.and_eq_true, List.all_eq_true] at h
  obtain ⟨h1, h2⟩ := h
  intro d
  induction d with
  | zero =>
    intro k a w hd hm hk hw
    obtain rfl : k = ops.size := by omega
    rw [List.drop_of_length_le (by simp)] at hw
    exact ⟨by simpa using h2, hw⟩
  | succ d ih =>
    intro k a w hd hm hk hw
    have hr : Region.ready md ops (firstK ops k) = [k] := by
      have := h1 (k - m) (List.mem_range.2 (by omega))
      rw [show m + (k - m) = k by omega] at this
      simpa using this
    refine ⟨(fun e => by rw [hr] at e; cases e), fun i hi => ?_⟩
    rw [hr] at hi
    obtain rfl : i = k := by simpa using hi
    have hlt : i < ops.toList.length := by simp; omega
    have hds : ops.toList.drop i = ops[i]'(by omega) :: ops.toList.drop (i + 1) := by
      rw [List.drop_eq_getElem_cons hlt]
      rfl
    rw [hds] at hw
    unfold wpOpIn
    rw [Array.getElem?_eq_getElem (show i < ops.size by omega)]
    show if _ then _ else _
    simp only [wpListIn] at hw
    split at hw
    · rename_i hwt
      rw [if_pos hwt]
      refine Oper.wpIn_mono (fun a' w' hk' => ?_) hw
      rw [firstK_set ops i (by omega)]
      exact ih (i + 1) a' w' (by omega) (by omega) (by omega) hk'
    · rename_i hwt
      rw [if_neg hwt]
      refine ⟨hw.1, ?_⟩
      rw [firstK_set ops i (by omega)]
      exact ih (i + 1) _ w (by omega) (by omega) (by omega) hw.2

theorem left_firstK (m : Nat) (hm : m ≤ ops.size) (listed : Array Bool) (hsz : listed.size = ops.size) (h1 : ∀ i, i < m → listed.getD i false = true) (h2 : ∀ i, m ≤ i → listed.getD i false = false) : listed = firstK ops m := by
  apply Array.ext_getElem?
  intro i
  by_cases hi : i < ops.size
  · have e : ∀ (l : Array Bool), l.size = ops.size → l[i]? = some (l.getD i false) := fun l hl => by
      simp only [Array.getD_eq_getD_getElem?]
      rw [Array.getElem?_eq_getElem (by omega)]
      rfl
    rw [e _ hsz, e _ (firstK_size _ _), firstK_get _ _ _ hm]
    congr 1
    by_cases h : i < m
    · rw [h1 i h]; simp [h]
    · rw [h2 i (by omega)]; simp [h]
  · rw [Array.getElem?_eq_none (by omega), Array.getElem?_eq_none (by rw [firstK_size]; omega)]

/-- THE REGION'S LAW: the first m in one frame, the others one behind the other. -/
theorem wpIn_region_early {id : Nat} {a : Act} {w : World} (hm0 : P.follows .mixedOrders = true) (hp : plainOps ops = true) (m : Nat) (hm : m ≤ ops.size) (hlate : lateOps .any ops m = true) (hchain : chainOps .any ops m = true) (hleft : left ops (firstK ops m) = ops.size - m)
    (val : Nat → Value) (b : Act) (hb : finAct ops a val m = b) (late : List Oper) (hl : ops.toList.drop m = late)
    (hstep : ∀ (i : Nat) (o : Oper) (listed : Array Bool) (a' : Act), i < m → ops[i]? = some o → listed.size = ops.size → listed.getD i false = false → (∀ e ∈ o.after, Region.binds .any e = true → listed.getD e.on false = true) → Closed .any ops listed → Shape ops a val listed a' →
      (∀ f, o.about P w.drew a'.eval = some f → F.fn f) ∧ ∃ r, (o.semAt F.round a'.eval).run P w.drew = .ok r w.drew ∧ (r = .value (val i) ∨ (r = .skip ∧ val i = undef)))
    (hend : wpListIn F n P ops Q late b w.drew) : (Code.region id ops true).wpIn F n P Q a w := by
  refine wpIn_region_any hm0 ?_
  have hw' : w.drew = { w with drawn := w.drawn + 1 } := rfl
  rw [← hw']
  have hall : ∀ j d, (Array.replicate ops.size false).getD j d = if j < ops.size then false else d := by
    intro j d
    simp only [Array.getD_eq_getD_getElem?, Array.getElem?_replicate]
    split <;> rfl
  obtain ⟨hg, hord, hdst⟩ := plainOps_spec hp
  refine wpAnyIn_early m hm a val (fun _ => w.drew) hg hord hdst hlate hstep (fun listed a' hsz h1 h2 hS hB => ?_) ops.size _ a (by simp) ?_ (fun j _ => by rw [hall]; split <;> rfl) (fun j o hj hl => by rw [hall] at hl; split at hl <;> cases hl) ⟨rfl, rfl, fun _ _ => rfl, fun j o d hj _ _ hl => ?_⟩ (fun _ _ _ _ _ _ => rfl)
  · rw [left_firstK m hm listed hsz h1 h2, hleft, Shape.early hm hS h1 hdst hB, hb]
    exact wpAnyIn_chain hchain _ m b _ rfl (Nat.le_refl _) hm (by rw [hl]; exact hend)
  · unfold left
    rw [List.filter_eq_self.2 (fun i hi => by rw [hall, if_pos (List.mem_range.1 hi)]; rfl), List.length_range]
  · rw [hall] at hl
    split at hl <;> cases hl
theorem wpIn_region_earlyW {id : Nat} {a : Act} {w : World} (hm0 : P.follows .mixedOrders = true) (hp : plainOps ops = true) (m : Nat) (hm : m ≤ ops.size) (hlate : lateOps .any ops m = true) (hchain : chainOps .any ops m = true) (hleft : left ops (firstK ops m) = ops.size - m)
    (val : Nat → Value) (b : Act) (hb : finAct ops a val m = b) (late : List Oper) (hl : ops.toList.drop m = late) (wd : Array Bool → World) (h0 : wd (Array.replicate ops.size false) = w.drew)
    (hstep : ∀ (i : Nat) (o : Oper) (listed : Array Bool) (a' : Act), i < m → ops[i]? = some o → listed.size = ops.size → listed.getD i false = false → (∀ e ∈ o.after, Region.binds .any e = true → listed.getD e.on false = true) → Closed .any ops listed → Shape ops a val listed a' →
      (∀ f, o.about P (wd listed) a'.eval = some f → F.fn f) ∧ ∃ r, (o.semAt F.round a'.eval).run P (wd listed) = .ok r (wd (listed.setIfInBounds i true)) ∧ (r = .value (val i) ∨ (r = .skip ∧ val i = undef)))
    (hend : wpListIn F n P ops Q late b (wd (firstK ops m))) : (Code.region id ops true).wpIn F n P Q a w := by
  refine wpIn_region_any hm0 ?_
  have hw' : w.drew = { w with drawn := w.drawn + 1 } := rfl
  rw [← hw', ← h0]
  have hall : ∀ j d, (Array.replicate ops.size false).getD j d = if j < ops.size then false else d := by
    intro j d
    simp only [Array.getD_eq_getD_getElem?, Array.getElem?_replicate]
    split <;> rfl
  obtain ⟨hg, hord, hdst⟩ := plainOps_spec hp
  refine wpAnyIn_early m hm a val wd hg hord hdst hlate hstep (fun listed a' hsz h1 h2 hS hB => ?_) ops.size _ a (by simp) ?_ (fun j _ => by rw [hall]; split <;> rfl) (fun j o hj hl => by rw [hall] at hl; split at hl <;> cases hl) ⟨rfl, rfl, fun _ _ => rfl, fun j o d hj _ _ hl => ?_⟩ (fun _ _ _ _ _ _ => rfl)
  · rw [left_firstK m hm listed hsz h1 h2, hleft, Shape.early hm hS h1 hdst hB, hb]
    exact wpAnyIn_chain hchain _ m b _ rfl (Nat.le_refl _) hm (by rw [hl]; exact hend)
  · unfold left
    rw [List.filter_eq_self.2 (fun i hi => by rw [hall, if_pos (List.mem_range.1 hi)]; rfl), List.length_range]
  · rw [hall] at hl
    split at hl <;> cases hl
end
end Go.Proofs.YtbegplfijjbpcaaDoor.Ear
