/- A region that draws its order within a fence, with calls among its operations: one frame, whatever the order (by wip/gen/gr_shp.py). Nothing of the program stands here. -/
import Derived.Test.YtbegplfijjbpcaaDoorDet
namespace Go.Proofs.YtbegplfijjbpcaaDoor
open Go
section
variable {F : Fence} {n : Nat} {P : Program} {ops : Array Oper} {Q : Exit → Act → World → Prop} {md : Region.Mode}

/-- WHATEVER THE ORDER, ONE FRAME: each operation that may come up puts its own value, and keeps what is said of the world. -/
theorem wpAnyIn_shape (a0 : Act) (val : Nat → Value) (J : Array Bool → World → Prop)
    (hg : ∀ (i : Nat) (o : Oper), ops[i]? = some o → o.guard = none)
    (hord : ∀ (i : Nat) (o : Oper) (e : Edge), ops[i]? = some o → e ∈ o.after → Region.binds md e = true → e.on < i)
    (hdst : ∀ (i j : Nat) (o o' : Oper) (d : Tmp), ops[i]? = some o → ops[j]? = some o' → o.dst = some d → o'.dst = some d → i = j)
    (hstep : ∀ (i : Nat) (o : Oper) (listed : Array Bool) (a : Act) (w : World), ops[i]? = some o → listed.size = ops.size → listed.getD i false = false → (∀ e ∈ o.after, Region.binds md e = true → listed.getD e.on false = true) → Shape ops a0 val listed a → J listed w →
      o.wpIn F n P a w (fun a' w' => a' = a.put o.dst (val i) ∧ J (listed.setIfInBounds i true) w') Q)
    (hend : ∀ (listed : Array Bool) (a : Act) (w : World), (∀ i, i < ops.size → listed.getD i false = true) → Shape ops a0 val listed a → J listed w → Q .normal a w) :
    ∀ (fuel : Nat) (listed : Array Bool) (a : Act) (w : World), listed.size = ops.size → left ops listed = fuel → Shape ops a0 val listed a → J listed w → wpAnyIn F n P md ops Q fuel listed a w := by
  have hfin : ∀ (listed : Array Bool), listed.size = ops.size → Region.ready md ops listed = [] → ∀ i, i < ops.size → listed.getD i false = true := by
    intro listed hsz hr
    have hall : ∀ k i, i < k → i < ops.size → listed.getD i false = true := by
      intro k
      induction k with
      | zero => intro i hi; omega
      | succ k ih =>
        intro i hi his
        rcases Nat.lt_or_ge i k with hlt | hge
        · exact ih i hlt his
        · obtain rfl : i = k := by omega
          apply Classical.byContradiction
          intro hn
          have hmem : i ∈ Region.ready md ops listed := by
            unfold Region.ready
            rw [List.mem_filter]
            refine ⟨List.mem_range.2 his, ?_⟩
            have hx : listed.getD i true = false := by
              simp only [Array.getD_eq_getD_getElem?] at hn ⊢
              rw [Array.getElem?_eq_getElem (by omega)] at hn ⊢
              simpa using hn
            rw [hx, Array.getElem?_eq_getElem his]
            simp only [Bool.not_false, Bool.true_and, Option.map_some, Option.getD_some, Array.all_eq_true]
            intro e he
            cases hb : Region.binds md ops[i].after[e] with
            | false => simp
            | true =>
              have h1 := hord i ops[i] _ (Array.getElem?_eq_getElem his) (Array.getElem_mem he) hb
              rw [ih _ h1 (by omega)]
              simp
          rw [hr] at hmem
          cases hmem
    exact fun i hi => hall (i + 1) i (by omega) hi
  intro fuel
  induction fuel with
  | zero =>
    intro listed a w hsz hl hS hJ
    have hall : ∀ i, i < ops.size → listed.getD i true = true := by
      intro i hi
      have := List.eq_nil_of_length_eq_zero hl
      rw [List.filter_eq_nil_iff] at this
      simpa using this i (List.mem_range.2 hi)
    have hr : Region.ready md ops listed = [] := by
      unfold Region.ready
      rw [List.filter_eq_nil_iff]
      intro i hi
      rw [hall i (List.mem_range.1 hi)]
      simp
    exact ⟨hr, hend listed a w (hfin listed hsz hr) hS hJ⟩
  | succ fuel ih =>
    intro listed a w hsz hl hS hJ
    refine ⟨fun hr => hend listed a w (hfin listed hsz hr) hS hJ, fun i hi => ?_⟩
    unfold Region.ready at hi
    rw [List.mem_filter, List.mem_range] at hi
    obtain ⟨his, hcond⟩ := hi
    rw [Array.getElem?_eq_getElem his] at hcond
    simp only [Option.map_some, Option.getD_some, Bool.and_eq_true, Bool.not_eq_true'] at hcond
    obtain ⟨hu, haf⟩ := hcond
    have hu' : listed.getD i false = false := by
      simp only [Array.getD_eq_getD_getElem?] at hu ⊢
      rw [Array.getElem?_eq_getElem (by omega)] at hu ⊢
      simpa using hu
    have ho : ops[i]? = some ops[i] := Array.getElem?_eq_getElem his
    have hlt : left ops (listed.setIfInBounds i true) + 1 = left ops listed := by
      unfold left
      have key : ∀ (l : List Nat), l.Nodup → i ∈ l → ((l.filter fun j => !(listed.setIfInBounds i true).getD j true).length + 1 = (l.filter fun j => !listed.getD j true).length) ∧ True := by
        intro l hn hm
        induction l with
        | nil => cases hm
        | cons y l ihl =>
          have hno : ∀ (l' : List Nat), i ∉ l' → (l'.filter fun j => !(listed.setIfInBounds i true).getD j true) = (l'.filter fun j => !listed.getD j true) := by
            intro l' hni
            apply List.filter_congr
            intro j hj
            have hne : i ≠ j := fun e => hni (by rw [e]; exact hj)
            rw [getD_set _ _ _ _ (by omega), if_neg hne]
          rcases List.mem_cons.1 hm with rfl | hm'
          · have hni : i ∉ l := (List.nodup_cons.1 hn).1
            refine ⟨?_, trivial⟩
            rw [List.filter_cons, List.filter_cons, hno l hni, getD_set _ _ _ _ (by omega), hu]
            simp
          · have hyi : i ≠ y := fun e => (List.nodup_cons.1 hn).1 (e ▸ hm')
            have h3 := (ihl (List.nodup_cons.1 hn).2 hm').1
            refine ⟨?_, trivial⟩
            rw [List.filter_cons, List.filter_cons, getD_set _ _ _ _ (by omega), if_neg hyi]
            by_cases hy : listed.getD y true = true
            · simp [hy]; simpa using h3
            · simp [hy]; simpa using h3
      exact (key _ List.nodup_range (List.mem_range.2 his)).1
    unfold wpOpIn
    rw [ho]
    have hw : Region.wanted ops[i] (yielded ops a.tmps) = true := by simp [Region.wanted, hg i _ ho]
    simp only [hw, if_true]
    refine Oper.wpIn_mono (fun a' w' h' => ?_) (hstep i ops[i] listed a w ho hsz hu' (fun e he hb => ?_) hS hJ)
    · obtain ⟨rfl, hJ'⟩ := h'
      exact ih _ _ _ (by simp [hsz]) (by omega) (hS.put ho (by omega) hdst) hJ'
    · rw [Array.all_eq_true'] at haf
      have := haf e he
      rw [hb] at this
      simpa using this

/-- THE LAW. -/
theorem wpIn_region_shape {id : Nat} {a : Act} {w : World} (hm : P.follows .mixedOrders = true) (hp : plainOps ops = true) (val : Nat → Value) (b : Act) (hb : finAct ops a val ops.size = b) (J : Array Bool → World → Prop) (h0 : J (Array.replicate ops.size false) w.drew)
    (hstep : ∀ (i : Nat) (o : Oper) (listed : Array Bool) (a' : Act) (w' : World), ops[i]? = some o → listed.size = ops.size → listed.getD i false = false → (∀ e ∈ o.after, Region.binds .any e = true → listed.getD e.on false = true) → Shape ops a val listed a' → J listed w' →
      o.wpIn F n P a' w' (fun a'' w'' => a'' = a'.put o.dst (val i) ∧ J (listed.setIfInBounds i true) w'') Q)
    (hend : ∀ (listed : Array Bool) (w' : World), (∀ i, i < ops.size → listed.getD i false = true) → J listed w' → Q .normal b w') : (Code.region id ops true).wpIn F n P Q a w := by
  refine wpIn_region_any hm ?_
  have hall : ∀ j d, (Array.replicate ops.size false).getD j d = if j < ops.size then false else d := by
    intro j d
    simp only [Array.getD_eq_getD_getElem?, Array.getElem?_replicate]
    split <;> rfl
  obtain ⟨hg, hord, hdst⟩ := plainOps_spec hp
  refine wpAnyIn_shape a val J hg hord hdst hstep (fun listed a' w' hl hS hJ => by rw [hS.final hl hdst, hb]; exact hend listed w' hl hJ) ops.size _ a _ (by simp) ?_ ⟨rfl, rfl, fun _ _ => rfl, fun j o d hj _ _ hl => ?_⟩ h0
  · unfold left
    rw [List.filter_eq_self.2 (fun i hi => by rw [hall, if_pos (List.mem_range.1 hi)]; rfl), List.length_range]
  · rw [hall] at hl; split at hl <;> cases hl
theorem op_val {o : Oper} {a : Act} {w : World} {K : Act → World → Prop} (v : Value) (w' : World) (hab : ∀ f, o.about P w a.eval = some f → F.fn f) (hrun : (o.semAt F.round a.eval).run P w = .ok (.value v) w') (hk : K (a.put o.dst v) w') : o.wpIn F n P a w K Q := by
  refine ⟨hab, ?_⟩
  rw [hrun]
  exact hk
theorem op_skip {o : Oper} {a : Act} {w : World} {K : Act → World → Prop} (w' : World) (hab : ∀ f, o.about P w a.eval = some f → F.fn f) (hrun : (o.semAt F.round a.eval).run P w = .ok .skip w') (hk : K (a.put o.dst undef) w') : o.wpIn F n P a w K Q := by
  refine ⟨hab, ?_⟩
  rw [hrun]
  exact hk
theorem op_call {o : Oper} {a : Act} {w : World} {K : Act → World → Prop} (f : FuncId) (args : Array Value) (hab : ∀ f, o.about P w a.eval = some f → F.fn f) (hrun : (o.semAt F.round a.eval).run P w = .ok (.enter f args) w) (hn : 1 ≤ n) (hc : CallsIn F (n - 1) P f args w (fun e w' => ∃ v, e = .returned v ∧ K (a.put o.dst v) w')) : o.wpIn F n P a w K Q := by
  refine ⟨hab, ?_⟩
  rw [hrun, Oper.uponIn_enter]
  refine ⟨fun _ => hn, hc.mono ?_⟩
  rintro e w' ⟨v, rfl, hk⟩
  exact hk
end
end Go.Proofs.YtbegplfijjbpcaaDoor
