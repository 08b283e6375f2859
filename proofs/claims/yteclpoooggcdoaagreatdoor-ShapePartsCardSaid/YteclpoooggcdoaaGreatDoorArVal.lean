/- A region that draws its order within a fence, with guards: the values are chosen as they come (as XNqVal); the last operation may write what the region has made. Nothing of the program stands here. -/
import Derived.Test.YteclpoooggcdoaaGreatDoorRgA
import Derived.Below
namespace Go.Proofs.YteclpoooggcdoaaGreatDoor
open Go Go.RowKit
section
variable {F : Fence} {n : Nat} {P : Program} {ops : Array Oper} {Q : Exit → Act → World → Prop} {md : Region.Mode}

/-- Each operation that may come up keeps what is said of frame and world. -/
theorem wpAnyIn_invG (J : Array Bool → Act → World → Prop)
    (hord : ∀ (i : Nat) (o : Oper) (e : Edge), ops[i]? = some o → e ∈ o.after → Region.binds md e = true → e.on < i)
    (hstep : ∀ (i : Nat) (o : Oper) (listed : Array Bool) (a : Act) (w : World), ops[i]? = some o → listed.size = ops.size → listed.getD i false = false → (∀ e ∈ o.after, Region.binds md e = true → listed.getD e.on false = true) → J listed a w →
      wpOpIn F n P ops Q i (J (listed.setIfInBounds i true)) a w)
    (hend : ∀ (listed : Array Bool) (a : Act) (w : World), (∀ i, i < ops.size → listed.getD i false = true) → J listed a w → Q .normal a w) :
    ∀ (fuel : Nat) (listed : Array Bool) (a : Act) (w : World), listed.size = ops.size → left ops listed = fuel → J listed a w → wpAnyIn F n P md ops Q fuel listed a w := by
  have hfin : ∀ (listed : Array Bool), listed.size = ops.size → Region.ready md ops listed = [] → ∀ i, i < ops.size → listed.getD i false = true := by
    intro listed hsz hr
    have hall : ∀ k i, i < k → i < ops.size → listed.getD i false = true := by
      intro k
      induction k with
      | zero => intro i hi; omega
      | succ k ih =>
        intro i hi his
        rcases Nat.lt_or_ge i k with hlt | hge
        · exact ih i hlt his
        · obtain rfl : i = k := by omega
          apply Classical.byContradiction
          intro hn
          have hmem : i ∈ Region.ready md ops listed := by
            unfold Region.ready
            rw [List.mem_filter]
            refine ⟨List.mem_range.2 his, ?_⟩
            have hx : listed.getD i true = false := by
              simp only [Array.getD_eq_getD_getElem?] at hn ⊢
              rw [Array.getElem?_eq_getElem (by omega)] at hn ⊢
              simpa using hn
            rw [hx, Array.getElem?_eq_getElem his]
            simp only [Bool.not_false, Bool.true_and, Option.map_some, Option.getD_some, Array.all_eq_true]
            intro e he
            cases hb : Region.binds md ops[i].after[e] with
            | false => simp
            | true =>
              have h1 := hord i ops[i] _ (Array.getElem?_eq_getElem his) (Array.getElem_mem he) hb
              rw [ih _ h1 (by omega)]
              simp
          rw [hr] at hmem
          cases hmem
    exact fun i hi => hall (i + 1) i (by omega) hi
  intro fuel
  induction fuel with
  | zero =>
    intro listed a w hsz hl hJ
    have hall : ∀ i, i < ops.size → listed.getD i true = true := by
      intro i hi
      have := List.eq_nil_of_length_eq_zero hl
      rw [List.filter_eq_nil_iff] at this
      simpa using this i (List.mem_range.2 hi)
    have hr : Region.ready md ops listed = [] := by
      unfold Region.ready
      rw [List.filter_eq_nil_iff]
      intro i hi
      rw [hall i (List.mem_range.1 hi)]
      simp
    exact ⟨hr, hend listed a w (hfin listed hsz hr) hJ⟩
  | succ fuel ih =>
    intro listed a w hsz hl hJ
    refine ⟨fun hr => hend listed a w (hfin listed hsz hr) hJ, fun i hi => ?_⟩
    unfold Region.ready at hi
    rw [List.mem_filter, List.mem_range] at hi
    obtain ⟨his, hcond⟩ := hi
    rw [Array.getElem?_eq_getElem his] at hcond
    simp only [Option.map_some, Option.getD_some, Bool.and_eq_true, Bool.not_eq_true'] at hcond
    obtain ⟨hu, haf⟩ := hcond
    have hu' : listed.getD i false = false := by
      simp only [Array.getD_eq_getD_getElem?] at hu ⊢
      rw [Array.getElem?_eq_getElem (by omega)] at hu ⊢
      simpa using hu
    have ho : ops[i]? = some ops[i] := Array.getElem?_eq_getElem his
    have hlt : left ops (listed.setIfInBounds i true) + 1 = left ops listed := by
      unfold left
      have key : ∀ (l : List Nat), l.Nodup → i ∈ l → ((l.filter fun j => !(listed.setIfInBounds i true).getD j true).length + 1 = (l.filter fun j => !listed.getD j true).length) ∧ True := by
        intro l hn hm
        induction l with
        | nil => cases hm
        | cons y l ihl =>
          have hno : ∀ (l' : List Nat), i ∉ l' → (l'.filter fun j => !(listed.setIfInBounds i true).getD j true) = (l'.filter fun j => !listed.getD j true) := by
            intro l' hni
            apply List.filter_congr
            intro j hj
            have hne : i ≠ j := fun e => hni (by rw [e]; exact hj)
            rw [getD_set _ _ _ _ (by omega), if_neg hne]
          rcases List.mem_cons.1 hm with rfl | hm'
          · have hni : i ∉ l := (List.nodup_cons.1 hn).1
            refine ⟨?_, trivial⟩
            rw [List.filter_cons, List.filter_cons, hno l hni, getD_set _ _ _ _ (by omega), hu]
            simp
          · have hyi : i ≠ y := fun e => (List.nodup_cons.1 hn).1 (e ▸ hm')
            have h3 := (ihl (List.nodup_cons.1 hn).2 hm').1
            refine ⟨?_, trivial⟩
            rw [List.filter_cons, List.filter_cons, getD_set _ _ _ _ (by omega), if_neg hyi]
            by_cases hy : listed.getD y true = true
            · simp [hy]; simpa using h3
            · simp [hy]; simpa using h3
      exact (key _ List.nodup_range (List.mem_range.2 his)).1
    refine wpOpIn_mono' (fun a' w' h' => ?_) (hstep i ops[i] listed a w ho hsz hu' (fun e he hb => ?_) hJ)
    · exact ih _ _ _ (by simp [hsz]) (by omega) h'
    · rw [Array.all_eq_true'] at haf
      have := haf e he
      rw [hb] at this
      simpa using this

/-- THE LAW: J speaks of what is listed, of the values of what is listed, and of the world. -/
theorem wpIn_region_valsG {id : Nat} {a : Act} {w : World} (hm : P.follows .mixedOrders = true) (hp : guardOps ops = true) (J : Array Bool → (Nat → Value) → World → Prop) (h0 : ∀ val, J (Array.replicate ops.size false) val w.drew)
    (hstep : ∀ (i : Nat) (o : Oper) (listed : Array Bool) (a' : Act) (w' : World) (val : Nat → Value), ops[i]? = some o → listed.size = ops.size → listed.getD i false = false → (∀ e ∈ o.after, Region.binds .any e = true → listed.getD e.on false = true) → Shape ops a val listed a' → J listed val w' →
      wpOpIn F n P ops Q i (fun a'' w'' => ∃ v, a'' = a'.put o.dst v ∧ J (listed.setIfInBounds i true) (fun j => if j = i then v else val j) w'') a' w')
    (hend : ∀ (listed : Array Bool) (w' : World) (val : Nat → Value), (∀ i, i < ops.size → listed.getD i false = true) → J listed val w' → Q .normal (finAct ops a val ops.size) w') : (Code.region id ops true).wpIn F n P Q a w := by
  refine wpIn_region_any hm ?_
  have hall : ∀ j d, (Array.replicate ops.size false).getD j d = if j < ops.size then false else d := by
    intro j d
    simp only [Array.getD_eq_getD_getElem?, Array.getElem?_replicate]
    split <;> rfl
  obtain ⟨hord, hdst⟩ := guardOps_spec hp
  refine wpAnyIn_invG (fun listed a' w' => listed.size = ops.size ∧ ∃ val, Shape ops a val listed a' ∧ J listed val w') hord (fun i o listed a' w' ho hsz hu haf hJ => ?_) (fun listed a' w' hl hJ => ?_) ops.size _ a _ (by simp) ?_ ⟨by simp, fun _ => undef, ⟨rfl, rfl, fun _ _ => rfl, fun j o d hj _ _ hl => ?_⟩, h0 _⟩
  · obtain ⟨_, val, hS, hJ⟩ := hJ
    refine wpOpIn_mono' (fun a'' w'' h' => ?_) (hstep i o listed a' w' val ho hsz hu haf hS hJ)
    obtain ⟨v, rfl, h2⟩ := h'
    refine ⟨by simp [hsz], fun j => if j = i then v else val j, ?_, h2⟩
    have hS' : Shape ops a (fun j => if j = i then v else val j) listed a' := ⟨hS.size, hS.defers, hS.base, fun j o' d hj hd hlt hl => by
      have hne : j ≠ i := fun e => by rw [e, hu] at hl; cases hl
      rw [if_neg hne]
      exact hS.set j o' d hj hd hlt hl⟩
    have := hS'.put ho (by have := (Array.getElem?_eq_some_iff.1 ho).1; omega) hdst
    rw [if_pos rfl] at this
    exact this
  · obtain ⟨_, val, hS, hJ⟩ := hJ
    rw [hS.final hl hdst]
    exact hend listed w' val hl hJ
  · unfold left
    rw [List.filter_eq_self.2 (fun i hi => by rw [hall, if_pos (List.mem_range.1 hi)]; rfl), List.length_range]
  · rw [hall] at hl; split at hl <;> cases hl
/-- Facts of values that new memory does not touch; one operation, behind all others, may write what the region itself has made. -/
theorem wpIn_region_lastG {id : Nat} {a : Act} {w : World} (hm : P.follows .mixedOrders = true) (hp : guardOps ops = true) (z : Nat) (hz : z + 1 = ops.size) (hback : ∀ j, j < z → j ∈ backOf ops ops.size z) (Ph : Nat → Value → World → Prop) (hPh : ∀ i v W W', Below W.heap.size W W' → Ph i v W → Ph i v W')
    (hstep : ∀ (i : Nat) (o : Oper) (listed : Array Bool) (a' : Act) (W : World) (val : Nat → Value), ops[i]? = some o → i < z → (∀ e ∈ o.after, Region.binds .any e = true → listed.getD e.on false = true) → Shape ops a val listed a' → Below w.heap.size w W → (∀ j, listed.getD j false = true → Ph j (val j) W) →
      wpOpIn F n P ops Q i (fun a'' W'' => ∃ v, a'' = a'.put o.dst v ∧ Below W.heap.size W W'' ∧ Ph i v W'') a' W)
    (hlast : ∀ (o : Oper) (listed : Array Bool) (a' : Act) (W : World) (val : Nat → Value), ops[z]? = some o → (∀ e ∈ o.after, Region.binds .any e = true → listed.getD e.on false = true) → Shape ops a val listed a' → Below w.heap.size w W → (∀ j, j < z → listed.getD j false = true ∧ Ph j (val j) W) →
      wpOpIn F n P ops Q z (fun a'' W'' => ∃ v, a'' = a'.put o.dst v ∧ Q .normal (finAct ops a (fun j => if j = z then v else val j) ops.size) W'') a' W) : (Code.region id ops true).wpIn F n P Q a w := by
  refine wpIn_region_valsG hm hp (fun listed val W => listed.size = ops.size ∧ Closed .any ops listed ∧ if listed.getD z false = true then Q .normal (finAct ops a val ops.size) W else Below w.heap.size w W ∧ ∀ j, listed.getD j false = true → Ph j (val j) W) (fun val => ⟨by simp, fun j o ho hl => absurd hl (by rw [rep_getD]; decide), by rw [rep_getD, if_neg (by decide)]; exact ⟨(Below.refl _ _).drew, fun j hl => absurd hl (by rw [rep_getD]; decide)⟩⟩) (fun i o listed a' W val ho hsz hu haf hS hJ => ?_) (fun listed W val hl hJ => ?_)
  · obtain ⟨hs, hcl, hJ⟩ := hJ
    have hi := (Array.getElem?_eq_some_iff.1 ho).1
    have hset : ∀ j, (listed.setIfInBounds i true).getD j false = if i = j then true else listed.getD j false := fun j => lset hs hi
    have hcl' : Closed .any ops (listed.setIfInBounds i true) := fun j o' ho' hlj e he hb => by
      rw [hset] at hlj ⊢
      by_cases e1 : i = j
      · subst e1
        rw [ho] at ho'
        cases ho'
        split
        · rfl
        · exact haf e he hb
      · rw [if_neg e1] at hlj
        split
        · rfl
        · exact hcl j o' ho' hlj e he hb
    by_cases hzi : i = z
    · subst hzi
      rw [hu, if_neg (by decide)] at hJ
      refine wpOpIn_mono' (fun a'' W'' h' => ?_) (hlast o listed a' W val ho haf hS hJ.1 (fun j hj => ?_))
      · obtain ⟨v, rfl, hv⟩ := h'
        exact ⟨v, rfl, by simp [hs], hcl', by rw [hset, if_pos rfl, if_pos rfl]; exact hv⟩
      · have hlj := back_listed hcl _ i o ho haf j (hback j hj)
        exact ⟨hlj, hJ.2 j hlj⟩
    · have hzl : listed.getD z false = false := by
        cases hzl : listed.getD z false with
        | false => rfl
        | true =>
          have hoz : ops[z]? = some ops[z] := Array.getElem?_eq_getElem (by omega)
          have := back_listed hcl _ z _ hoz (fun e he hb => hcl z _ hoz hzl e he hb) i (hback i (by omega))
          rw [hu] at this
          cases this
      rw [hzl, if_neg (by decide)] at hJ
      refine wpOpIn_mono' (fun a'' W'' h' => ?_) (hstep i o listed a' W val ho (by omega) haf hS hJ.1 hJ.2)
      obtain ⟨v, rfl, hb, hv⟩ := h'
      refine ⟨v, rfl, by simp [hs], hcl', ?_⟩
      rw [hset, if_neg hzi, hzl, if_neg (by decide)]
      refine ⟨hJ.1.trans (hb.mono hJ.1.size), fun j hlj => ?_⟩
      rw [hset] at hlj
      by_cases e : i = j
      · subst e
        simp only [if_pos]
        exact hv
      · rw [if_neg e] at hlj
        simp only [if_neg (Ne.symm e)]
        exact hPh _ _ _ _ hb (hJ.2 j hlj)
  · obtain ⟨_, _, hJ⟩ := hJ
    rw [hl z (by omega), if_pos rfl] at hJ
    exact hJ
end
end Go.Proofs.YteclpoooggcdoaaGreatDoor
