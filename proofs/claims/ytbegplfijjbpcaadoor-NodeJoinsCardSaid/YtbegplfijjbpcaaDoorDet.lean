/- A region that draws its order, each of whose operations yields one value whatever the order: all orders come to one end. Nothing of the program stands here. -/
import Derived.OrdersIn
import Derived.OwnWalkIn
namespace Go.Proofs.YtbegplfijjbpcaaDoor
open Go

/-- The frame when just the listed operations are over: each has put its value; all else is as in a0. -/
structure Shape (ops : Array Oper) (a0 : Act) (val : Nat → Value) (listed : Array Bool) (a : Act) : Prop where
  size : a.tmps.size = a0.tmps.size
  defers : a.defers = a0.defers
  base : ∀ (t : Tmp), (∀ (j : Nat) (o : Oper), ops[j]? = some o → o.dst ≠ some t) → a.tmps[t]? = a0.tmps[t]?
  set : ∀ (j : Nat) (o : Oper) (d : Tmp), ops[j]? = some o → o.dst = some d → d < a0.tmps.size → listed.getD j false = true → a.tmps[d]? = some (val j)

/-- What must come ahead of a listed operation is listed. -/
def Closed (md : Region.Mode) (ops : Array Oper) (listed : Array Bool) : Prop :=
  ∀ (j : Nat) (o : Oper), ops[j]? = some o → listed.getD j false = true → ∀ e ∈ o.after, Region.binds md e = true → listed.getD e.on false = true

theorem Shape.tmpBase {ops : Array Oper} {a0 a : Act} {val : Nat → Value} {listed : Array Bool} (h : Shape ops a0 val listed a) (t : Tmp) (ht : ops.all (fun o => o.dst != some t) = true) : a.tmps[t]? = a0.tmps[t]? :=
  h.base t (fun j o hj e => by
    rw [Array.all_eq_true'] at ht
    have h1 := ht o (Array.mem_of_getElem? hj)
    rw [e] at h1
    simp at h1)
theorem Shape.tmpSet {ops : Array Oper} {a0 a : Act} {val : Nat → Value} {listed : Array Bool} (h : Shape ops a0 val listed a) (j : Nat) (o : Oper) (d : Tmp) (ho : ops[j]? = some o) (hd : o.dst = some d) (hlt : d < a0.tmps.size) (hl : listed.getD j false = true) : a.tmps[d]? = some (val j) :=
  h.set j o d ho hd hlt hl

theorem getD_set (l : Array Bool) (i j : Nat) (d : Bool) (hi : i < l.size) : (l.setIfInBounds i true).getD j d = if i = j then true else l.getD j d := by
  simp only [Array.getD_eq_getD_getElem?, Array.getElem?_setIfInBounds]
  by_cases h : i = j
  · subst h; simp [hi]
  · simp [h]

/-- How many are not listed yet. -/
def left (ops : Array Oper) (listed : Array Bool) : Nat := ((List.range ops.size).filter fun i => !listed.getD i true).length
section
variable {F : Fence} {n : Nat} {P : Program} {ops : Array Oper} {Q : Exit → Act → World → Prop} {md : Region.Mode}

theorem Shape.put {a0 a : Act} {val : Nat → Value} {listed : Array Bool} {i : Nat} {o : Oper} (h : Shape ops a0 val listed a) (ho : ops[i]? = some o) (hsz : i < listed.size)
    (hdst : ∀ (i j : Nat) (o o' : Oper) (d : Tmp), ops[i]? = some o → ops[j]? = some o' → o.dst = some d → o'.dst = some d → i = j) : Shape ops a0 val (listed.setIfInBounds i true) (a.put o.dst (val i)) := by
  cases hd : o.dst with
  | none =>
    refine ⟨h.size, h.defers, h.base, fun j o' d hj hd' hlt hl => ?_⟩
    rw [getD_set _ _ _ _ hsz] at hl
    by_cases hij : i = j
    · subst hij; rw [ho] at hj; cases hj; rw [hd] at hd'; cases hd'
    · rw [if_neg hij] at hl; exact h.set j o' d hj hd' hlt hl
  | some d0 =>
    refine ⟨by simp [Act.put, h.size], h.defers, fun t ht => ?_, fun j o' d hj hd' hlt hl => ?_⟩
    · have hne : d0 ≠ t := fun e => ht i o ho (by rw [hd, e])
      simp only [Act.put]
      rw [Array.getElem?_setIfInBounds_ne hne]
      exact h.base t ht
    · rw [getD_set _ _ _ _ hsz] at hl
      simp only [Act.put]
      by_cases hij : i = j
      · subst hij
        rw [ho] at hj; cases hj
        rw [hd] at hd'; cases hd'
        rw [Array.getElem?_setIfInBounds_self_of_lt (by rw [h.size]; exact hlt)]
      · rw [if_neg hij] at hl
        have hne : d0 ≠ d := fun e => hij (hdst i j o o' d ho hj (by rw [hd, e]) hd')
        rw [Array.getElem?_setIfInBounds_ne hne]
        exact h.set j o' d hj hd' hlt hl

/-- WHATEVER THE ORDER, ONE END: at any point each operation that may come up runs to its own value, from the point's world to the next point's. -/
theorem wpAnyIn_det (a0 : Act) (val : Nat → Value) (wd : Array Bool → World)
    (hg : ∀ (i : Nat) (o : Oper), ops[i]? = some o → o.guard = none)
    (hord : ∀ (i : Nat) (o : Oper) (e : Edge), ops[i]? = some o → e ∈ o.after → Region.binds md e = true → e.on < i)
    (hdst : ∀ (i j : Nat) (o o' : Oper) (d : Tmp), ops[i]? = some o → ops[j]? = some o' → o.dst = some d → o'.dst = some d → i = j)
    (hstep : ∀ (i : Nat) (o : Oper) (listed : Array Bool) (a : Act), ops[i]? = some o → listed.size = ops.size → listed.getD i false = false → (∀ e ∈ o.after, Region.binds md e = true → listed.getD e.on false = true) → Closed md ops listed → Shape ops a0 val listed a →
      (∀ f, o.about P (wd listed) a.eval = some f → F.fn f) ∧ ∃ r, (o.semAt F.round a.eval).run P (wd listed) = .ok r (wd (listed.setIfInBounds i true)) ∧ (r = .value (val i) ∨ (r = .skip ∧ val i = undef)))
    (hend : ∀ (listed : Array Bool) (a : Act), (∀ i, i < ops.size → listed.getD i false = true) → Shape ops a0 val listed a → Q .normal a (wd listed)) :
    ∀ (fuel : Nat) (listed : Array Bool) (a : Act), listed.size = ops.size → left ops listed = fuel → Closed md ops listed → Shape ops a0 val listed a → wpAnyIn F n P md ops Q fuel listed a (wd listed) := by
  have hfin : ∀ (listed : Array Bool), listed.size = ops.size → Region.ready md ops listed = [] → ∀ i, i < ops.size → listed.getD i false = true := by
    intro listed hsz hr
    have hall : ∀ k i, i < k → i < ops.size → listed.getD i false = true := by
      intro k
      induction k with
      | zero => intro i hi; omega
      | succ k ih =>
        intro i hi his
        rcases Nat.lt_or_ge i k with hlt | hge
        · exact ih i hlt his
        · obtain rfl : i = k := by omega
          apply Classical.byContradiction
          intro hn
          have hmem : i ∈ Region.ready md ops listed := by
            unfold Region.ready
            rw [List.mem_filter]
            refine ⟨List.mem_range.2 his, ?_⟩
            have hx : listed.getD i true = false := by
              simp only [Array.getD_eq_getD_getElem?] at hn ⊢
              rw [Array.getElem?_eq_getElem (by omega)] at hn ⊢
              simpa using hn
            rw [hx, Array.getElem?_eq_getElem his]
            simp only [Bool.not_false, Bool.true_and, Option.map_some, Option.getD_some, Array.all_eq_true]
            intro e he
            cases hb : Region.binds md ops[i].after[e] with
            | false => simp
            | true =>
              have h1 := hord i ops[i] _ (Array.getElem?_eq_getElem his) (Array.getElem_mem he) hb
              rw [ih _ h1 (by omega)]
              simp
          rw [hr] at hmem
          cases hmem
    exact fun i hi => hall (i + 1) i (by omega) hi
  intro fuel
  induction fuel with
  | zero =>
    intro listed a hsz hl hcl hS
    have hall : ∀ i, i < ops.size → listed.getD i true = true := by
      intro i hi
      have := List.eq_nil_of_length_eq_zero hl
      rw [List.filter_eq_nil_iff] at this
      simpa using this i (List.mem_range.2 hi)
    have hr : Region.ready md ops listed = [] := by
      unfold Region.ready
      rw [List.filter_eq_nil_iff]
      intro i hi
      rw [hall i (List.mem_range.1 hi)]
      simp
    exact ⟨hr, hend listed a (hfin listed hsz hr) hS⟩
  | succ fuel ih =>
    intro listed a hsz hl hcl hS
    refine ⟨fun hr => hend listed a (hfin listed hsz hr) hS, fun i hi => ?_⟩
    unfold Region.ready at hi
    rw [List.mem_filter, List.mem_range] at hi
    obtain ⟨his, hcond⟩ := hi
    rw [Array.getElem?_eq_getElem his] at hcond
    simp only [Option.map_some, Option.getD_some, Bool.and_eq_true, Bool.not_eq_true'] at hcond
    obtain ⟨hu, haf⟩ := hcond
    have hu' : listed.getD i false = false := by
      simp only [Array.getD_eq_getD_getElem?] at hu ⊢
      rw [Array.getElem?_eq_getElem (by omega)] at hu ⊢
      simpa using hu
    have ho : ops[i]? = some ops[i] := Array.getElem?_eq_getElem his
    obtain ⟨hab, r, hrun, hr⟩ := hstep i ops[i] listed a ho hsz hu' (fun e he hb => by
      rw [Array.all_eq_true'] at haf
      have := haf e he
      rw [hb] at this
      simpa using this) hcl hS
    have hcl' : Closed md ops (listed.setIfInBounds i true) := by
      intro j o hj hl' e he hb
      rw [getD_set _ _ _ _ (by omega)] at hl' ⊢
      by_cases hie : i = e.on
      · rw [if_pos hie]
      · rw [if_neg hie]
        by_cases hij : i = j
        · subst hij
          rw [ho] at hj; cases hj
          rw [Array.all_eq_true'] at haf
          have := haf e he
          rw [hb] at this
          simpa using this
        · rw [if_neg hij] at hl'
          exact hcl j o hj hl' e he hb
    have hnext : wpAnyIn F n P md ops Q fuel (listed.setIfInBounds i true) (a.put ops[i].dst (val i)) (wd (listed.setIfInBounds i true)) := by
      refine ih _ _ (by simp [hsz]) ?_ hcl' (hS.put ho (by omega) hdst)
      have hlt : left ops (listed.setIfInBounds i true) + 1 = left ops listed := by
        unfold left
        have key : ∀ (l : List Nat), l.Nodup → i ∈ l → ((l.filter fun j => !(listed.setIfInBounds i true).getD j true).length + 1 = (l.filter fun j => !listed.getD j true).length) ∧ True := by
          intro l hn hm
          induction l with
          | nil => cases hm
          | cons y l ihl =>
            have hno : ∀ (l' : List Nat), i ∉ l' → (l'.filter fun j => !(listed.setIfInBounds i true).getD j true) = (l'.filter fun j => !listed.getD j true) := by
              intro l' hni
              apply List.filter_congr
              intro j hj
              have hne : i ≠ j := fun e => hni (by rw [e]; exact hj)
              rw [getD_set _ _ _ _ (by omega), if_neg hne]
            rcases List.mem_cons.1 hm with rfl | hm'
            · have hni : i ∉ l := (List.nodup_cons.1 hn).1
              refine ⟨?_, trivial⟩
              rw [List.filter_cons, List.filter_cons, hno l hni, getD_set _ _ _ _ (by omega), hu]
              simp
            · have hyi : i ≠ y := fun e => (List.nodup_cons.1 hn).1 (e ▸ hm')
              have h3 := (ihl (List.nodup_cons.1 hn).2 hm').1
              refine ⟨?_, trivial⟩
              rw [List.filter_cons, List.filter_cons, getD_set _ _ _ _ (by omega), if_neg hyi]
              by_cases hy : listed.getD y true = true
              · simp [hy]; simpa using h3
              · simp [hy]; simpa using h3
        exact (key _ List.nodup_range (List.mem_range.2 his)).1
      omega
    unfold wpOpIn
    rw [ho]
    have hw : Region.wanted ops[i] (yielded ops a.tmps) = true := by simp [Region.wanted, hg i _ ho]
    simp only [hw, if_true]
    refine ⟨hab, ?_⟩
    rw [hrun]
    rcases hr with rfl | ⟨rfl, hv⟩
    · exact hnext
    · rw [hv] at hnext; exact hnext

/-- The frame behind the region. -/
def finAct (ops : Array Oper) (a0 : Act) (val : Nat → Value) : Nat → Act
  | 0 => a0
  | k + 1 => match ops[k]? with
    | some o => (finAct ops a0 val k).put o.dst (val k)
    | none => finAct ops a0 val k
theorem Shape.unique {a0 a b : Act} {val : Nat → Value} {l l' : Array Bool} (h : Shape ops a0 val l a) (h' : Shape ops a0 val l' b) (hl : ∀ i, i < ops.size → l.getD i false = true) (hl' : ∀ i, i < ops.size → l'.getD i false = true) : a = b := by
  obtain ⟨ta, da⟩ := a
  obtain ⟨tb, db⟩ := b
  have e1 : ta = tb := by
    apply Array.ext_getElem?
    intro t
    by_cases hx : ∃ (j : Nat) (o : Oper), ops[j]? = some o ∧ o.dst = some t
    · obtain ⟨j, o, ho, hd⟩ := hx
      have hj : j < ops.size := (Array.getElem?_eq_some_iff.1 ho).1
      by_cases ht : t < a0.tmps.size
      · exact (h.set j o t ho hd ht (hl j hj)).trans (h'.set j o t ho hd ht (hl' j hj)).symm
      · have s1 := h.size
        have s2 := h'.size
        simp only at s1 s2
        rw [Array.getElem?_eq_none (by omega), Array.getElem?_eq_none (by omega)]
    · have hn : ∀ (j : Nat) (o : Oper), ops[j]? = some o → o.dst ≠ some t := fun j o ho hd => hx ⟨j, o, ho, hd⟩
      exact (h.base t hn).trans (h'.base t hn).symm
  have e2 : da = db := h.defers.trans h'.defers.symm
  rw [e1, e2]
theorem Shape.final {a0 a : Act} {val : Nat → Value} {l : Array Bool} (h : Shape ops a0 val l a) (hl : ∀ i, i < ops.size → l.getD i false = true)
    (hdst : ∀ (i j : Nat) (o o' : Oper) (d : Tmp), ops[i]? = some o → ops[j]? = some o' → o.dst = some d → o'.dst = some d → i = j) : a = finAct ops a0 val ops.size := by
  have key : ∀ k, k ≤ ops.size → ∃ l' : Array Bool, l'.size = ops.size ∧ (∀ i, i < k → l'.getD i false = true) ∧ (∀ i, k ≤ i → l'.getD i false = false) ∧ Shape ops a0 val l' (finAct ops a0 val k) := by
    intro k
    induction k with
    | zero =>
      intro _
      have hz : ∀ j, (Array.replicate ops.size false).getD j false = false := by
        intro j
        simp only [Array.getD_eq_getD_getElem?, Array.getElem?_replicate]
        split <;> rfl
      refine ⟨Array.replicate ops.size false, by simp, fun i hi => by omega, fun i _ => hz i, ⟨rfl, rfl, fun _ _ => rfl, fun j o d hj _ _ hl => ?_⟩⟩
      rw [hz] at hl; cases hl
    | succ k ih =>
      intro hk
      obtain ⟨l', h1, h2, h3, h4⟩ := ih (by omega)
      have ho : ops[k]? = some ops[k] := Array.getElem?_eq_getElem (by omega)
      refine ⟨l'.setIfInBounds k true, by simp [h1], fun i hi => ?_, fun i hi => ?_, ?_⟩
      · rw [getD_set _ _ _ _ (by omega)]
        split
        · rfl
        · exact h2 i (by omega)
      · rw [getD_set _ _ _ _ (by omega), if_neg (by omega)]
        exact h3 i (by omega)
      · simp only [finAct, ho]
        exact h4.put ho (by omega) hdst
  obtain ⟨l', _, h2, _, h4⟩ := key ops.size (Nat.le_refl _)
  exact h.unique h4 hl h2

/-- No guard; each comes behind earlier ones alone; no two write one slot. -/
def plainOps (ops : Array Oper) : Bool :=
  ops.all (fun o => o.guard.isNone) &&
  (List.range ops.size).all (fun i => match ops[i]? with | some o => o.after.all (fun e => !Region.binds .any e || decide (e.on < i)) | none => true) &&
  (List.range ops.size).all (fun i => (List.range ops.size).all fun j => i == j || match ops[i]?, ops[j]? with | some o, some o' => (match o.dst, o'.dst with | some d, some d' => d != d' | _, _ => true) | _, _ => true)
theorem plainOps_spec (h : plainOps ops = true) :
    (∀ (i : Nat) (o : Oper), ops[i]? = some o → o.guard = none) ∧ (∀ (i : Nat) (o : Oper) (e : Edge), ops[i]? = some o → e ∈ o.after → Region.binds .any e = true → e.on < i) ∧
    (∀ (i j : Nat) (o o' : Oper) (d : Tmp), ops[i]? = some o → ops[j]? = some o' → o.dst = some d → o'.dst = some d → i = j) := by
  unfold plainOps at h
  rw [Bool.and_eq_true, Bool.and_eq_true] at h
  obtain ⟨⟨h1, h2⟩, h3⟩ := h
  rw [List.all_eq_true] at h2 h3
  refine ⟨fun i o ho => ?_, fun i o e ho he hb => ?_, fun i j o o' d ho ho' hd hd' => ?_⟩
  · rw [Array.all_eq_true'] at h1
    have := h1 o (Array.mem_of_getElem? ho)
    simpa using this
  · have := h2 i (List.mem_range.2 (Array.getElem?_eq_some_iff.1 ho).1)
    rw [ho] at this
    simp only [Array.all_eq_true'] at this
    simpa [hb] using this e he
  · have h4 := h3 i (List.mem_range.2 (Array.getElem?_eq_some_iff.1 ho).1)
    rw [List.all_eq_true] at h4
    have h5 := h4 j (List.mem_range.2 (Array.getElem?_eq_some_iff.1 ho').1)
    rw [ho, ho'] at h5
    simp only [hd, hd'] at h5
    simpa using h5

/-- The region's law. -/
theorem wpIn_region_det {id : Nat} {a : Act} {w : World} (hm : P.follows .mixedOrders = true) (hp : plainOps ops = true) (val : Nat → Value) (wd : Array Bool → World) (hw : wd (Array.replicate ops.size false) = w.drew)
    (hstep : ∀ (i : Nat) (o : Oper) (listed : Array Bool) (a' : Act), ops[i]? = some o → listed.size = ops.size → listed.getD i false = false → (∀ e ∈ o.after, Region.binds .any e = true → listed.getD e.on false = true) → Closed .any ops listed → Shape ops a val listed a' →
      (∀ f, o.about P (wd listed) a'.eval = some f → F.fn f) ∧ ∃ r, (o.semAt F.round a'.eval).run P (wd listed) = .ok r (wd (listed.setIfInBounds i true)) ∧ (r = .value (val i) ∨ (r = .skip ∧ val i = undef)))
    (hend : ∀ (listed : Array Bool), (∀ i, i < ops.size → listed.getD i false = true) → Q .normal (finAct ops a val ops.size) (wd listed)) : (Code.region id ops true).wpIn F n P Q a w := by
  refine wpIn_region_any hm ?_
  have hw' : wd (Array.replicate ops.size false) = { w with drawn := w.drawn + 1 } := hw
  rw [← hw']
  have hall : ∀ j d, (Array.replicate ops.size false).getD j d = if j < ops.size then false else d := by
    intro j d
    simp only [Array.getD_eq_getD_getElem?, Array.getElem?_replicate]
    split <;> rfl
  obtain ⟨hg, hord, hdst⟩ := plainOps_spec hp
  refine wpAnyIn_det a val wd hg hord hdst hstep (fun listed a' hl hS => by rw [hS.final hl hdst]; exact hend listed hl) ops.size _ a (by simp) ?_ (fun j o hj hl => by rw [hall] at hl; split at hl <;> cases hl) ⟨rfl, rfl, fun _ _ => rfl, fun j o d hj _ _ hl => ?_⟩
  · unfold left
    rw [List.filter_eq_self.2 (fun i hi => by rw [hall, if_pos (List.mem_range.1 hi)]; rfl), List.length_range]
  · rw [hall] at hl
    split at hl <;> cases hl
/-- The same, the frame behind it written out. -/
theorem wpIn_region_det_to {id : Nat} {a : Act} {w : World} (hm : P.follows .mixedOrders = true) (hp : plainOps ops = true) (val : Nat → Value) (b : Act) (hb : finAct ops a val ops.size = b) (wd : Array Bool → World) (hw : wd (Array.replicate ops.size false) = w.drew)
    (hstep : ∀ (i : Nat) (o : Oper) (listed : Array Bool) (a' : Act), ops[i]? = some o → listed.size = ops.size → listed.getD i false = false → (∀ e ∈ o.after, Region.binds .any e = true → listed.getD e.on false = true) → Closed .any ops listed → Shape ops a val listed a' →
      (∀ f, o.about P (wd listed) a'.eval = some f → F.fn f) ∧ ∃ r, (o.semAt F.round a'.eval).run P (wd listed) = .ok r (wd (listed.setIfInBounds i true)) ∧ (r = .value (val i) ∨ (r = .skip ∧ val i = undef)))
    (hend : ∀ (listed : Array Bool), (∀ i, i < ops.size → listed.getD i false = true) → Q .normal b (wd listed)) : (Code.region id ops true).wpIn F n P Q a w :=
  wpIn_region_det hm hp val wd hw hstep (fun listed hl => by rw [hb]; exact hend listed hl)
end
end Go.Proofs.YtbegplfijjbpcaaDoor
