/- What closes what, in a map of tokens: what a look-up and an insertion answer. A region that draws its order: whatever holds at its points, step by step, holds behind it. Nothing of the program stands here. What closes what: the map is made, in whatever order. -/
import Derived.Test.YthbiflmmlcmncaaDoorGyA
import Derived.Maps.Own
import Derived.WideKeyRuns
import Derived.Test.YthbiflmmlcmncaaDoorDet
import Derived.Orders
/- What closes what, in a map of tokens: what a look-up and an insertion answer. -/
namespace Go.Proofs.YthbiflmmlcmncaaDoor.Ti
open Go Go.RowKit Go.Shelf
attribute [local go_sem] Oper.semAt_some

/-- The four keys' glyphs, and what closes them. -/
def kk : Nat → List UInt8
  | 0 => [40]
  | 1 => [41]
  | 2 => [123]
  | _ => [125]
def vv : Nat → List UInt8
  | 0 => [41]
  | 1 => [41]
  | 2 => [125]
  | _ => [125]
theorem kk_inj {i j : Nat} (hi : i < 4) (hj : j < 4) (h : kk i = kk j) : i = j := by
  rcases (show i = 0 ∨ i = 1 ∨ i = 2 ∨ i = 3 by omega) with rfl | rfl | rfl | rfl <;> rcases (show j = 0 ∨ j = 1 ∨ j = 2 ∨ j = 3 by omega) with rfl | rfl | rfl | rfl <;> first | rfl | cases h
/-- A bare sign. -/
def sg (g : List UInt8) : Value := .agg #[.int .i64 8, .string ⟨#[]⟩, .string (bs g)]
def ent (p : Nat × Nat) : MapEntry := ⟨sg (kk p.1), sg (vv p.1), p.2⟩
/-- The map's entries, in the order in which they came. -/
def entL (es : List Nat) : List MapEntry := es.zipIdx.map ent
theorem entL_snoc (es : List Nat) (j : Nat) : entL (es ++ [j]) = entL es ++ [⟨sg (kk j), sg (vv j), es.length⟩] := by
  unfold entL
  rw [List.zipIdx_append, List.map_append]
  simp [ent]
def askP (k : Int) (G : List UInt8) : List (Nat × Nat) → Nat → Option (Nat × Value)
  | [], _ => none
  | p :: E, i => if k = 8 ∧ G = kk p.1 then some (i, sg (vv p.1)) else askP k G E (i + 1)

set_option maxRecDepth 100000 in
set_option maxHeartbeats 2000000 in
theorem eq_tok (k j : Int) (s t g h : ByteArray) (W : World) :
    (Op.equal 31 (.agg #[.int .i64 k, .string s, .string g]) (.agg #[.int .i64 j, .string t, .string h])).run Tryd.prog W = .ok ((k == j) && ((s.toList == t.toList) && (g.toList == h.toList))) W := by
  have e : (Op.equal 31 (.agg #[.int .i64 k, .string s, .string g]) (.agg #[.int .i64 j, .string t, .string h])) = Op.equalIn 10000 31 (.agg #[.int .i64 k, .string s, .string g]) (.agg #[.int .i64 j, .string t, .string h]) := rfl
  rw [e, run_equalIn_struct W 9999 31 _ _ Tryd.underlying31 (by kernel_rfl)]
  cases h1 : (k == j) <;> cases h2 : (s.toList == t.toList) <;> cases h3 : (g.toList == h.toList) <;> go_simp

theorem ask_run (k : Int) (G : List UInt8) (W : World) : ∀ (E : List (Nat × Nat)) (i : Nat),
    (Instr.findAsking 31 (.agg #[.int .i64 k, .string ⟨#[]⟩, .string (bs G)]) (E.map ent) i).run Tryd.prog W = .ok (askP k G E i) W
  | [], i => by simp [Instr.findAsking, askP]
  | p :: E, i => by
    have h1 := eq_tok k 8 ⟨#[]⟩ ⟨#[]⟩ (bs G) (bs (kk p.1)) W
    rw [bs_eq] at h1
    have hk : (ent p).key = .agg #[.int .i64 8, .string ⟨#[]⟩, .string (bs (kk p.1))] := rfl
    have ih := ask_run k G W E (i + 1)
    simp only [List.map_cons, Instr.findAsking, hk, Sem.run_bind, h1, Result.andThen_ok]
    by_cases hc : k = 8 ∧ G = kk p.1
    · rw [if_pos (by simp [hc.1, hc.2])]
      simp only [askP, if_pos hc]
      rfl
    · have hb : ((k == 8) && ((ByteArray.toList ⟨#[]⟩ == ByteArray.toList ⟨#[]⟩) && decide (G = kk p.1))) = false := by
        rw [Bool.eq_false_iff]
        intro e
        simp at e
        exact hc e
      rw [hb]
      simp only [askP, if_neg hc]
      exact ih
theorem ask_none {k : Int} {G : List UInt8} : ∀ (E : List (Nat × Nat)) (i : Nat), (∀ p ∈ E, ¬ (k = 8 ∧ G = kk p.1)) → askP k G E i = none
  | [], _, _ => rfl
  | p :: E, i, h => by
    simp only [askP]
    rw [if_neg (h p List.mem_cons_self)]
    exact ask_none E (i + 1) (fun q hq => h q (List.mem_cons_of_mem _ hq))
theorem ask_some {j : Nat} (hj : j < 4) : ∀ (E : List (Nat × Nat)) (i : Nat), (∀ p ∈ E, p.1 < 4) → (∃ p ∈ E, p.1 = j) → ∃ q, askP 8 (kk j) E i = some (q, sg (vv j))
  | [], _, _, h => by obtain ⟨p, hp, _⟩ := h; cases hp
  | p :: E, i, h4, h => by
    simp only [askP]
    by_cases hc : kk j = kk p.1
    · rw [if_pos (by simpa using hc)]
      have := kk_inj hj (h4 p List.mem_cons_self) hc
      exact ⟨i, by rw [← this]⟩
    · rw [if_neg (by simpa using hc)]
      refine ask_some hj E (i + 1) (fun q hq => h4 q (List.mem_cons_of_mem _ hq)) ?_
      obtain ⟨q, hq, hqj⟩ := h
      rcases List.mem_cons.1 hq with rfl | e
      · exact absurd (by rw [hqj]) hc
      · exact ⟨q, e, hqj⟩
theorem find_run (k : Int) (G : List UInt8) (es : List Nat) (W : World) :
    (Instr.findKey 31 (.agg #[.int .i64 k, .string ⟨#[]⟩, .string (bs G)]) (entL es)).run Tryd.prog W = .ok (askP k G es.zipIdx 0) W := by
  rw [run_findKey_eq (P := Tryd.prog) W (by rw [Tryd.underlying31])]
  exact ask_run k G W es.zipIdx 0
theorem check_tok_n (n : Nat) (em : Bool) (k : Int) (s g : ByteArray) (W : World) : (Instr.checkKey em (n + 1 + 1) 31 (.agg #[.int .i64 k, .string s, .string g])).run Tryd.prog W = .ok () W := by
  simp only [Instr.checkKey, Sem.run_bind, run_underlying Tryd.underlying31, Result.andThen_ok]
  go_simp
theorem check_tok (em : Bool) (k : Int) (s g : ByteArray) (W : World) : (Instr.checkKey em 10000 31 (.agg #[.int .i64 k, .string s, .string g])).run Tryd.prog W = .ok () W := check_tok_n 9998 em k s g W
end Go.Proofs.YthbiflmmlcmncaaDoor.Ti

/- A region that draws its order: whatever holds at its points, step by step, holds behind it. Nothing of the program stands here. -/
namespace Go.Proofs.YthbiflmmlcmncaaDoor
open Go
section
variable {P : Program} {ops : Array Oper} {Q : Exit → Act → World → Prop} {md : Region.Mode}
theorem wpAny_inv (J : Array Bool → Act → World → Prop)
    (hord : ∀ (i : Nat) (o : Oper) (e : Edge), ops[i]? = some o → e ∈ o.after → Region.binds md e = true → e.on < i)
    (hstep : ∀ (i : Nat) (o : Oper) (listed : Array Bool) (a : Act) (w : World), ops[i]? = some o → listed.size = ops.size → listed.getD i false = false → (∀ e ∈ o.after, Region.binds md e = true → listed.getD e.on false = true) → J listed a w → wpOp P ops Q i (J (listed.setIfInBounds i true)) a w)
    (hend : ∀ (listed : Array Bool) (a : Act) (w : World), listed.size = ops.size → (∀ i, i < ops.size → listed.getD i false = true) → J listed a w → Q .normal a w) :
    ∀ (fuel : Nat) (listed : Array Bool) (a : Act) (w : World), listed.size = ops.size → left ops listed = fuel → J listed a w → wpAny P md ops Q fuel listed a w := by
  have hfin : ∀ (listed : Array Bool), listed.size = ops.size → Region.ready md ops listed = [] → ∀ i, i < ops.size → listed.getD i false = true := by
    intro listed hsz hr
    have hall : ∀ k i, i < k → i < ops.size → listed.getD i false = true := by
      intro k
      induction k with
      | zero => intro i hi; omega
      | succ k ih =>
        intro i hi his
        rcases Nat.lt_or_ge i k with hlt | hge
        · exact ih i hlt his
        · obtain rfl : i = k := by omega
          apply Classical.byContradiction
          intro hn
          have hmem : i ∈ Region.ready md ops listed := by
            unfold Region.ready
            rw [List.mem_filter]
            refine ⟨List.mem_range.2 his, ?_⟩
            have hx : listed.getD i true = false := by
              simp only [Array.getD_eq_getD_getElem?] at hn ⊢
              rw [Array.getElem?_eq_getElem (by omega)] at hn ⊢
              simpa using hn
            rw [hx, Array.getElem?_eq_getElem his]
            simp only [Bool.not_false, Bool.true_and, Option.map_some, Option.getD_some, Array.all_eq_true]
            intro e he
            cases hb : Region.binds md ops[i].after[e] with
            | false => simp
            | true =>
              have h1 := hord i ops[i] _ (Array.getElem?_eq_getElem his) (Array.getElem_mem he) hb
              rw [ih _ h1 (by omega)]
              simp
          rw [hr] at hmem
          cases hmem
    exact fun i hi => hall (i + 1) i (by omega) hi
  intro fuel
  induction fuel with
  | zero =>
    intro listed a w hsz hl hJ
    have hall : ∀ i, i < ops.size → listed.getD i true = true := by
      intro i hi
      have := List.eq_nil_of_length_eq_zero hl
      rw [List.filter_eq_nil_iff] at this
      simpa using this i (List.mem_range.2 hi)
    have hr : Region.ready md ops listed = [] := by
      unfold Region.ready
      rw [List.filter_eq_nil_iff]
      intro i hi
      rw [hall i (List.mem_range.1 hi)]
      simp
    exact ⟨hr, hend listed a w hsz (hfin listed hsz hr) hJ⟩
  | succ fuel ih =>
    intro listed a w hsz hl hJ
    refine ⟨fun hr => hend listed a w hsz (hfin listed hsz hr) hJ, fun i hi => ?_⟩
    unfold Region.ready at hi
    rw [List.mem_filter, List.mem_range] at hi
    obtain ⟨his, hcond⟩ := hi
    rw [Array.getElem?_eq_getElem his] at hcond
    simp only [Option.map_some, Option.getD_some, Bool.and_eq_true, Bool.not_eq_true'] at hcond
    obtain ⟨hu, haf⟩ := hcond
    have hu' : listed.getD i false = false := by
      simp only [Array.getD_eq_getD_getElem?] at hu ⊢
      rw [Array.getElem?_eq_getElem (by omega)] at hu ⊢
      simpa using hu
    have hlt : left ops (listed.setIfInBounds i true) + 1 = left ops listed := by
      unfold left
      have key : ∀ (l : List Nat), l.Nodup → i ∈ l → ((l.filter fun j => !(listed.setIfInBounds i true).getD j true).length + 1 = (l.filter fun j => !listed.getD j true).length) ∧ True := by
        intro l hn hm
        induction l with
        | nil => cases hm
        | cons y l ihl =>
          have hno : ∀ (l' : List Nat), i ∉ l' → (l'.filter fun j => !(listed.setIfInBounds i true).getD j true) = (l'.filter fun j => !listed.getD j true) := by
            intro l' hni
            apply List.filter_congr
            intro j hj
            have hne : i ≠ j := fun e => hni (by rw [e]; exact hj)
            rw [getD_set _ _ _ _ (by omega), if_neg hne]
          rcases List.mem_cons.1 hm with rfl | hm'
          · have hni : i ∉ l := (List.nodup_cons.1 hn).1
            refine ⟨?_, trivial⟩
            rw [List.filter_cons, List.filter_cons, hno l hni, getD_set _ _ _ _ (by omega), hu]
            simp
          · have hyi : i ≠ y := fun e => (List.nodup_cons.1 hn).1 (e ▸ hm')
            have h3 := (ihl (List.nodup_cons.1 hn).2 hm').1
            refine ⟨?_, trivial⟩
            rw [List.filter_cons, List.filter_cons, getD_set _ _ _ _ (by omega), if_neg hyi]
            by_cases hy : listed.getD y true = true
            · simp [hy]; simpa using h3
            · simp [hy]; simpa using h3
      exact (key _ List.nodup_range (List.mem_range.2 his)).1
    refine wpOp_mono (fun a' w' hJ' => ih _ a' w' (by simp [hsz]) (by omega) hJ') (hstep i ops[i] listed a w (Array.getElem?_eq_getElem his) hsz hu' (fun e he hb => ?_) hJ)
    rw [Array.all_eq_true'] at haf
    have := haf e he
    rw [hb] at this
    simpa using this
/-- THE LAW. -/
theorem wp_region_inv {id : Nat} {a : Act} {w : World} (J : Array Bool → Act → World → Prop) (hm : P.follows .mixedOrders = true) (hp : plainOps ops = true) (h0 : J (Array.replicate ops.size false) a w.drew)
    (hstep : ∀ (i : Nat) (o : Oper) (listed : Array Bool) (a : Act) (w : World), ops[i]? = some o → listed.size = ops.size → listed.getD i false = false → (∀ e ∈ o.after, Region.binds .any e = true → listed.getD e.on false = true) → J listed a w → wpOp P ops Q i (J (listed.setIfInBounds i true)) a w)
    (hend : ∀ (listed : Array Bool) (a : Act) (w : World), listed.size = ops.size → (∀ i, i < ops.size → listed.getD i false = true) → J listed a w → Q .normal a w) : (Code.region id ops true).wp P Q a w := by
  refine wp_region_any hm ?_
  obtain ⟨_, hord, _⟩ := plainOps_spec hp
  have hall : ∀ j d, (Array.replicate ops.size false).getD j d = if j < ops.size then false else d := by
    intro j d
    simp only [Array.getD_eq_getD_getElem?, Array.getElem?_replicate]
    split <;> rfl
  refine wpAny_inv J hord hstep hend ops.size _ a _ (by simp) ?_ h0
  unfold left
  rw [List.filter_eq_self.2 (fun i hi => by rw [hall, if_pos (List.mem_range.1 hi)]; rfl), List.length_range]
end
end Go.Proofs.YthbiflmmlcmncaaDoor

/- What closes what: the map is made, in whatever order. -/
namespace Go.Proofs.YthbiflmmlcmncaaDoor.Ti
open Go Go.RowKit Go.Shelf
attribute [local go_sem] Oper.semAt_some

/-- THE MAP LIES in block m: it has come to hold what es tells. -/
def MapAt (W : World) (m : Nat) (es : List Nat) : Prop := W.heap[m]? = some (.map (entL es).toArray es.length)
theorem MapAt.below {W W' : World} {m : Nat} {es : List Nat} (h : MapAt W m es) (hb : Below W.heap.size W W') : MapAt W' m es := (hb.block m (Array.getElem?_eq_some_iff.1 h).1).trans h
theorem look_map {k : Int} {G : List UInt8} {W : World} {m : Nat} {es : List Nat} (h : MapAt W m es) (he : es ≠ []) (r : Option (Nat × Value)) (hr : askP k G es.zipIdx 0 = r) :
    (Instr.lookup 61 (.map (some m)) (.agg #[.int .i64 k, .string ⟨#[]⟩, .string (bs G)]) true).run Tryd.prog W = .ok (match r with
      | some p => .tuple #[p.2, .bool true]
      | none => .tuple #[.agg #[.int .i64 0, .string ⟨#[]⟩, .string ⟨#[]⟩], .bool false]) W := by
  have h1 := find_run k G es W
  rw [hr] at h1
  have h2 : (entL es).toArray.isEmpty = false := by
    cases es with
    | nil => exact absurd rfl he
    | cons x l => simp [entL, List.zipIdx]
  cases r with
  | none => simp [Instr.lookup, run_underlying Tryd.underlying61, Go.MapKept.run_getObj_map h, check_tok, h1, Result.andThen, Tryd.zeroValue31]
  | some p => simp [Instr.lookup, run_underlying Tryd.underlying61, Go.MapKept.run_getObj_map h, check_tok, h1, Result.andThen]
theorem ins_map {W : World} {m : Nat} {es : List Nat} (h : MapAt W m es) (j : Nat) (hn : askP 8 (kk j) es.zipIdx 0 = none) :
    ∃ W', (Instr.mapUpdate 61 (.map (some m)) (sg (kk j)) (sg (vv j))).run Tryd.prog W = .ok () W' ∧ MapAt W' m (es ++ [j]) ∧ W'.heap.size = W.heap.size ∧ (∀ q, q ≠ m → W'.heap[q]? = W.heap[q]?) ∧ W'.os = W.os ∧ W'.tape = W.tape ∧ W'.output = W.output := by
  have h1 := find_run 8 (kk j) es W
  rw [hn] at h1
  have hlt := (Array.getElem?_eq_some_iff.1 h).1
  have hp : ((entL es).toArray).push { key := sg (kk j), val := sg (vv j), born := es.length } = (entL (es ++ [j])).toArray := by rw [entL_snoc]; simp
  refine ⟨{ W with heap := W.heap.setIfInBounds m (.map (entL (es ++ [j])).toArray (es ++ [j]).length) }, ?_, ?_, by simp, fun q hq => ?_, rfl, rfl, rfl⟩
  · have h3 : (Instr.findKey 31 (sg (kk j)) (entL es)).run Tryd.prog W = .ok none W := h1
    have h4 : (Instr.checkKey false 10000 31 (sg (kk j))).run Tryd.prog W = .ok () W := check_tok _ _ _ _ _
    simp [Instr.mapUpdate, run_underlying Tryd.underlying61, Go.MapKept.run_getObj_map h, h4, h3, Go.MapKept.run_setObj_map _ h, Result.andThen, hp]
  · show (W.heap.setIfInBounds m _)[m]? = _
    rw [Array.getElem?_setIfInBounds_self_of_lt hlt]
  · show (W.heap.setIfInBounds m _)[q]? = _
    rw [Array.getElem?_setIfInBounds_ne (Ne.symm hq)]

theorem wpOp_plain {P : Program} {ops : Array Oper} {Q : Exit → Act → World → Prop} {K : Act → World → Prop} {i : Nat} {o : Oper} {a : Act} {w : World} (hi : ops[i]? = some o) (hg : o.guard = none) (h : o.wp P a w K Q) : wpOp P ops Q i K a w := by
  unfold wpOp
  rw [hi]
  have hw : Region.wanted o (yielded ops a.tmps) = true := by simp [Region.wanted, hg]
  simp only [hw, if_true]
  exact .inl h
/-- The frame when just the listed operations are over. -/
def frC (l : Nat → Bool) (m : Nat) : Act := { tmps := #[if l 14 then .map (some m) else .map none, if l 0 then .map (some m) else undef, if l 1 then sg [40] else undef, if l 2 then sg [41] else undef, if l 4 then sg [41] else undef, if l 5 then sg [41] else undef, if l 7 then sg [123] else undef, if l 8 then sg [125] else undef, if l 10 then sg [125] else undef, if l 11 then sg [125] else undef, if l 13 then .map (some m) else undef], defers := [] }
/-- What holds when just the listed operations are over. -/
structure JC (w : World) (listed : Array Bool) (a : Act) (W : World) : Prop where
  below : Below w.heap.size w W
  ex : ∃ m es, a = frC (fun i => listed.getD i false) m ∧ (listed.getD 0 false = true → w.heap.size ≤ m ∧ MapAt W m es) ∧ (listed.getD 0 false = false → es = []) ∧ es.Nodup ∧ (∀ j, j ∈ es ↔ j < 4 ∧ listed.getD (3 * j + 3) false = true)
  late : listed.getD 0 false = false → listed.getD 13 false = false ∧ listed.getD 14 false = false
theorem lset {l : Array Bool} {n i j : Nat} (hs : l.size = n) (hi : i < n) : (l.setIfInBounds i true).getD j false = if i = j then true else l.getD j false := getD_set l i j false (by omega)
theorem JC.call {w W W' : World} {listed : Array Bool} {a : Act} (h : JC w listed a W) (hs : listed.size = 15) (i d : Nat) (x : Value) (hi : i < 13) (hi0 : i ≠ 0) (_ : d < 11) (h3 : ∀ j, j < 4 → i ≠ 3 * j + 3) (hb : Below W.heap.size W W')
    (hf : ∀ m, (frC (fun i => listed.getD i false) m).put (some d) x = frC (fun j => (listed.setIfInBounds i true).getD j false) m) : JC w (listed.setIfInBounds i true) (a.put (some d) x) W' := by
  obtain ⟨m, es, e1, e2, e3, e4, e5⟩ := h.ex
  refine ⟨h.below.trans (hb.mono h.below.size), ⟨m, es, by rw [e1]; exact hf m, fun h0 => ?_, fun h0 => ?_, e4, fun j => ?_⟩, fun h0 => ?_⟩
  · rw [lset hs (by omega), if_neg hi0] at h0
    exact ⟨(e2 h0).1, (e2 h0).2.below hb⟩
  · rw [lset hs (by omega), if_neg hi0] at h0
    exact e3 h0
  · rw [e5 j]
    constructor
    · rintro ⟨h1, h2⟩
      exact ⟨h1, by rw [lset hs (by omega), if_neg (h3 j h1)]; exact h2⟩
    · rintro ⟨h1, h2⟩
      rw [lset hs (by omega), if_neg (h3 j h1)] at h2
      exact ⟨h1, h2⟩
  · rw [lset hs (by omega), if_neg hi0] at h0
    rw [lset hs (by omega), lset hs (by omega), if_neg (by omega), if_neg (by omega)]
    exact h.late h0
theorem JC.move {w W : World} {listed : Array Bool} {a : Act} (h : JC w listed a W) (hs : listed.size = 15) (i d m : Nat) (es : List Nat) (hi : i = 13 ∨ i = 14) (e2 : listed.getD 0 false = true → w.heap.size ≤ m ∧ MapAt W m es) (e4 : es.Nodup) (e5 : ∀ j, j ∈ es ↔ j < 4 ∧ listed.getD (3 * j + 3) false = true) (l0 : listed.getD 0 false = true)
    (hf : a.put (some d) (.map (some m)) = frC (fun j => (listed.setIfInBounds i true).getD j false) m) : JC w (listed.setIfInBounds i true) (a.put (some d) (.map (some m))) W := by
  refine ⟨h.below, ⟨m, es, hf, fun _ => e2 l0, fun h0 => ?_, e4, fun j => ?_⟩, fun h0 => ?_⟩
  · rw [lset hs (by omega), if_neg (by omega), l0] at h0; cases h0
  · rw [e5 j]
    constructor
    · rintro ⟨h1, h2⟩
      exact ⟨h1, by rw [lset hs (by omega), if_neg (by omega)]; exact h2⟩
    · rintro ⟨h1, h2⟩
      rw [lset hs (by omega), if_neg (by omega)] at h2
      exact ⟨h1, h2⟩
  · rw [lset hs (by omega), if_neg (by omega), l0] at h0; cases h0
theorem JC.ins {w W : World} {listed : Array Bool} {a : Act} (h : JC w listed a W) (hs : listed.size = 15) (j : Nat) (hj : j < 4) (h0 : listed.getD 0 false = true) (hn : listed.getD (3 * j + 3) false = false) :
    ∃ m W', a = frC (fun i => listed.getD i false) m ∧ (Instr.mapUpdate 61 (.map (some m)) (sg (kk j)) (sg (vv j))).run Tryd.prog W = .ok () W' ∧ JC w (listed.setIfInBounds (3 * j + 3) true) (frC (fun i => (listed.setIfInBounds (3 * j + 3) true).getD i false) m) W' := by
  obtain ⟨m, es, e1, e2, e3, e4, e5⟩ := h.ex
  obtain ⟨hm, hM⟩ := e2 h0
  have hni : j ∉ es := fun e => by have := ((e5 j).1 e).2; rw [hn] at this; cases this
  obtain ⟨W', r1, r2, r3, r4, r5, r6, r7⟩ := ins_map hM j (ask_none _ _ (fun p hp e => by
    obtain ⟨p1, p2⟩ := p
    have hp1 : p1 ∈ es := by
      have := List.mem_zipIdx hp
      rw [this.2.2]
      exact List.getElem_mem _
    have := kk_inj hj ((e5 p1).1 hp1).1 e.2
    exact hni (this ▸ hp1)))
  refine ⟨m, W', e1, r1, ⟨r5.trans h.below.os, r6.trans h.below.tape, r7.trans h.below.output, by rw [r3]; exact h.below.size, fun k hk => (r4 k (by omega)).trans (h.below.block k hk)⟩, ⟨m, es ++ [j], rfl, fun _ => ⟨hm, r2⟩, fun h1 => ?_, ?_, fun i => ?_⟩, fun h1 => ?_⟩
  · rw [lset hs (by omega), if_neg (by omega), h0] at h1; cases h1
  · rw [List.nodup_append]
    exact ⟨e4, by simp, fun x hx y hy e => hni (by rw [List.mem_singleton.1 hy] at e; exact e ▸ hx)⟩
  · rw [List.mem_append, List.mem_singleton, e5 i]
    constructor
    · rintro (⟨h1, h2⟩ | rfl)
      · refine ⟨h1, ?_⟩
        rw [lset hs (by omega)]
        split
        · rfl
        · exact h2
      · exact ⟨hj, by rw [lset hs (by omega), if_pos rfl]⟩
    · rintro ⟨h1, h2⟩
      rw [lset hs (by omega)] at h2
      by_cases hij : j = i
      · exact .inr hij.symm
      · rw [if_neg (by omega)] at h2
        exact .inl ⟨h1, h2⟩
  · rw [lset hs (by omega), if_neg (by omega), h0] at h1; cases h1

set_option maxRecDepth 100000 in
set_option maxHeartbeats 8000000 in
/-- closers(). -/
theorem closers_c (w : World) :
    Calls Tryd.prog 38 #[] w fun e W' => ∃ m es, e = .returned (.map (some m)) ∧ w.heap.size ≤ m ∧ m < W'.heap.size ∧ MapAt W' m es ∧ (∀ j, j ∈ es ↔ j < 4) ∧ Below w.heap.size w W' := by
  have hmix : Tryd.prog.follows .mixedOrders = true := by kernel_rfl
  have hsg : ∀ (g : List UInt8) W, Calls Tryd.prog 34 #[.string (bs g)] W fun e W' => e = .returned (sg g) ∧ Below W.heap.size W W' := fun g W => sign_c (bs g) W
  have HSG := Lib.hid hsg
  clear hsg
  go_enter Tryd.func38, Tryd.ntmps38
  go_wp2_with fail
  refine wp_region_inv (JC w) hmix (by kernel_rfl) ?_ ?_ ?_
  · refine ⟨(Below.refl _ w).drew, ⟨0, [], rfl, fun h => ?_, fun _ => rfl, List.nodup_nil, fun j => ?_⟩, fun _ => ⟨rfl, rfl⟩⟩
    · simp at h
    · constructor
      · intro h; cases h
      · rintro ⟨h1, h2⟩
        rcases (show j = 0 ∨ j = 1 ∨ j = 2 ∨ j = 3 by omega) with rfl | rfl | rfl | rfl <;> simp at h2
  · intro i o listed a W ho hsz hnl haf hJ
    have hi : i < 15 := (Array.getElem?_eq_some_iff.1 ho).1
    change listed.size = 15 at hsz
    have hl : ∀ j, (listed.setIfInBounds i true).getD j false = if i = j then true else listed.getD j false := fun j => lset hsz hi
    rcases (show i = 0 ∨ i = 1 ∨ i = 2 ∨ i = 3 ∨ i = 4 ∨ i = 5 ∨ i = 6 ∨ i = 7 ∨ i = 8 ∨ i = 9 ∨ i = 10 ∨ i = 11 ∨ i = 12 ∨ i = 13 ∨ i = 14 by omega) with rfl | rfl | rfl | rfl | rfl | rfl | rfl | rfl | rfl | rfl | rfl | rfl | rfl | rfl | rfl
    all_goals simp only [List.getElem?_toArray, List.getElem?_cons_zero, List.getElem?_cons_succ, Option.some.injEq] at ho
    all_goals subst ho
    all_goals refine wpOp_plain rfl rfl ?_
    · have hmm : (Instr.makeMap 61 none).run Tryd.prog W = .ok (.map (some W.heap.size)) (W.alloc (.map #[] 0)) := run_makeMap _ W
      obtain ⟨m, es, e1, e2, e3, e4, e5⟩ := hJ.ex
      obtain rfl := e3 hnl
      have hall : ∀ j, j < 4 → listed.getD (3 * j + 3) false = false := fun j hj => by
        cases hx : listed.getD (3 * j + 3) false with
        | false => rfl
        | true => have := (e5 j).2 ⟨hj, hx⟩; cases this
      have h13 : listed.getD 13 false = false ∧ listed.getD 14 false = false := hJ.late (by rw [hnl])
      have HL := Lib.hid hall
      have HI := Lib.hid hl
      clear hall e2 e3 e5 hl
      go_simp
      refine ⟨hJ.below.alloc hJ.below.size _, ⟨W.heap.size, [], ?_, fun _ => ⟨hJ.below.size, World.alloc_heap_new W _⟩, fun _ => rfl, List.nodup_nil, fun j => ?_⟩, fun h => ?_⟩
      · have h13a := h13.1
        have h13b := h13.2
        simp at h13a h13b
        simp [frC, HI.out, h13a, h13b]
      · constructor
        · intro h; cases h
        · rintro ⟨h1, h2⟩
          rw [HI.out, if_neg (by omega), HL.out j h1] at h2
          cases h2
      · rw [HI.out, if_pos rfl] at h; cases h
    · have HI := Lib.hid hl
      clear hl
      go_simp
      refine (HSG.out [40] W).mono ?_
      rintro e W' ⟨rfl, hb⟩
      dsimp only
      exact hJ.call hsz 1 2 (sg [40]) (by omega) (by omega) (by omega) (fun j hj => by omega) hb (fun m => by simp [frC, Act.put, HI.out])
    · have HI := Lib.hid hl
      clear hl
      go_simp
      refine (HSG.out [41] W).mono ?_
      rintro e W' ⟨rfl, hb⟩
      dsimp only
      exact hJ.call hsz 2 3 (sg [41]) (by omega) (by omega) (by omega) (fun j hj => by omega) hb (fun m => by simp [frC, Act.put, HI.out])
    · have l0 : listed.getD 0 false = true := haf ⟨0, .data⟩ (by simp) rfl
      have l1 : listed.getD 1 false = true := haf ⟨1, .data⟩ (by simp) rfl
      have l2 : listed.getD 2 false = true := haf ⟨2, .data⟩ (by simp) rfl
      obtain ⟨m, W', e1, r1, r2⟩ := hJ.ins hsz 0 (by omega) l0 hnl
      have r1' : (Instr.mapUpdate 61 (.map (some m)) (sg [40]) (sg [41])).run Tryd.prog W = .ok () W' := r1
      have hfr : frC (fun i => (listed.setIfInBounds 3 true).getD i false) m = a := by rw [e1]; simp [frC, hl]
      change JC w (listed.setIfInBounds 3 true) _ W' at r2
      rw [hfr] at r2
      have h1 : a.tmps[1]? = some (.map (some m)) := by rw [e1]; simp only [frC, l0]; rfl
      have h2 : a.tmps[2]? = some (sg [40]) := by rw [e1]; simp only [frC, l1]; rfl
      have h3 : a.tmps[3]? = some (sg [41]) := by rw [e1]; simp only [frC, l2]; rfl
      have HR := Lib.hid r2
      clear r1 r2 hfr e1 hl
      go_simp
      exact HR.out
    · have HI := Lib.hid hl
      clear hl
      go_simp
      refine (HSG.out [41] W).mono ?_
      rintro e W' ⟨rfl, hb⟩
      dsimp only
      exact hJ.call hsz 4 4 (sg [41]) (by omega) (by omega) (by omega) (fun j hj => by omega) hb (fun m => by simp [frC, Act.put, HI.out])
    · have HI := Lib.hid hl
      clear hl
      go_simp
      refine (HSG.out [41] W).mono ?_
      rintro e W' ⟨rfl, hb⟩
      dsimp only
      exact hJ.call hsz 5 5 (sg [41]) (by omega) (by omega) (by omega) (fun j hj => by omega) hb (fun m => by simp [frC, Act.put, HI.out])
    · have l0 : listed.getD 0 false = true := haf ⟨0, .data⟩ (by simp) rfl
      have l1 : listed.getD 4 false = true := haf ⟨4, .data⟩ (by simp) rfl
      have l2 : listed.getD 5 false = true := haf ⟨5, .data⟩ (by simp) rfl
      obtain ⟨m, W', e1, r1, r2⟩ := hJ.ins hsz 1 (by omega) l0 hnl
      have r1' : (Instr.mapUpdate 61 (.map (some m)) (sg [41]) (sg [41])).run Tryd.prog W = .ok () W' := r1
      have hfr : frC (fun i => (listed.setIfInBounds 6 true).getD i false) m = a := by rw [e1]; simp [frC, hl]
      change JC w (listed.setIfInBounds 6 true) _ W' at r2
      rw [hfr] at r2
      have h1 : a.tmps[1]? = some (.map (some m)) := by rw [e1]; simp only [frC, l0]; rfl
      have h2 : a.tmps[4]? = some (sg [41]) := by rw [e1]; simp only [frC, l1]; rfl
      have h3 : a.tmps[5]? = some (sg [41]) := by rw [e1]; simp only [frC, l2]; rfl
      have HR := Lib.hid r2
      clear r1 r2 hfr e1 hl
      go_simp
      exact HR.out
    · have HI := Lib.hid hl
      clear hl
      go_simp
      refine (HSG.out [123] W).mono ?_
      rintro e W' ⟨rfl, hb⟩
      dsimp only
      exact hJ.call hsz 7 6 (sg [123]) (by omega) (by omega) (by omega) (fun j hj => by omega) hb (fun m => by simp [frC, Act.put, HI.out])
    · have HI := Lib.hid hl
      clear hl
      go_simp
      refine (HSG.out [125] W).mono ?_
      rintro e W' ⟨rfl, hb⟩
      dsimp only
      exact hJ.call hsz 8 7 (sg [125]) (by omega) (by omega) (by omega) (fun j hj => by omega) hb (fun m => by simp [frC, Act.put, HI.out])
    · have l0 : listed.getD 0 false = true := haf ⟨0, .data⟩ (by simp) rfl
      have l1 : listed.getD 7 false = true := haf ⟨7, .data⟩ (by simp) rfl
      have l2 : listed.getD 8 false = true := haf ⟨8, .data⟩ (by simp) rfl
      obtain ⟨m, W', e1, r1, r2⟩ := hJ.ins hsz 2 (by omega) l0 hnl
      have r1' : (Instr.mapUpdate 61 (.map (some m)) (sg [123]) (sg [125])).run Tryd.prog W = .ok () W' := r1
      have hfr : frC (fun i => (listed.setIfInBounds 9 true).getD i false) m = a := by rw [e1]; simp [frC, hl]
      change JC w (listed.setIfInBounds 9 true) _ W' at r2
      rw [hfr] at r2
      have h1 : a.tmps[1]? = some (.map (some m)) := by rw [e1]; simp only [frC, l0]; rfl
      have h2 : a.tmps[6]? = some (sg [123]) := by rw [e1]; simp only [frC, l1]; rfl
      have h3 : a.tmps[7]? = some (sg [125]) := by rw [e1]; simp only [frC, l2]; rfl
      have HR := Lib.hid r2
      clear r1 r2 hfr e1 hl
      go_simp
      exact HR.out
    · have HI := Lib.hid hl
      clear hl
      go_simp
      refine (HSG.out [125] W).mono ?_
      rintro e W' ⟨rfl, hb⟩
      dsimp only
      exact hJ.call hsz 10 8 (sg [125]) (by omega) (by omega) (by omega) (fun j hj => by omega) hb (fun m => by simp [frC, Act.put, HI.out])
    · have HI := Lib.hid hl
      clear hl
      go_simp
      refine (HSG.out [125] W).mono ?_
      rintro e W' ⟨rfl, hb⟩
      dsimp only
      exact hJ.call hsz 11 9 (sg [125]) (by omega) (by omega) (by omega) (fun j hj => by omega) hb (fun m => by simp [frC, Act.put, HI.out])
    · have l0 : listed.getD 0 false = true := haf ⟨0, .data⟩ (by simp) rfl
      have l1 : listed.getD 10 false = true := haf ⟨10, .data⟩ (by simp) rfl
      have l2 : listed.getD 11 false = true := haf ⟨11, .data⟩ (by simp) rfl
      obtain ⟨m, W', e1, r1, r2⟩ := hJ.ins hsz 3 (by omega) l0 hnl
      have r1' : (Instr.mapUpdate 61 (.map (some m)) (sg [125]) (sg [125])).run Tryd.prog W = .ok () W' := r1
      have hfr : frC (fun i => (listed.setIfInBounds 12 true).getD i false) m = a := by rw [e1]; simp [frC, hl]
      change JC w (listed.setIfInBounds 12 true) _ W' at r2
      rw [hfr] at r2
      have h1 : a.tmps[1]? = some (.map (some m)) := by rw [e1]; simp only [frC, l0]; rfl
      have h2 : a.tmps[8]? = some (sg [125]) := by rw [e1]; simp only [frC, l1]; rfl
      have h3 : a.tmps[9]? = some (sg [125]) := by rw [e1]; simp only [frC, l2]; rfl
      have HR := Lib.hid r2
      clear r1 r2 hfr e1 hl
      go_simp
      exact HR.out
    · have l0 : listed.getD 0 false = true := haf ⟨0, .data⟩ (by simp) rfl
      obtain ⟨m, es, e1, e2, e3, e4, e5⟩ := hJ.ex
      have h1 : a.tmps[1]? = some (.map (some m)) := by rw [e1]; simp only [frC, l0]; rfl
      have HN : Hid (JC w (listed.setIfInBounds 13 true) (a.put (some 10) (.map (some m))) W) := Lib.hid (hJ.move hsz 13 10 m es (.inl rfl) e2 e4 e5 l0 (by rw [e1]; simp [frC, Act.put, hl]))
      clear e1 e2 e3 e4 e5 hl
      go_simp
      exact HN.out
    · have l0 : listed.getD 0 false = true := haf ⟨0, .phase⟩ (by simp) rfl
      have l13 : listed.getD 13 false = true := haf ⟨13, .data⟩ (by simp) rfl
      obtain ⟨m, es, e1, e2, e3, e4, e5⟩ := hJ.ex
      have h1 : a.tmps[10]? = some (.map (some m)) := by rw [e1]; simp only [frC, l13]; rfl
      have HN : Hid (JC w (listed.setIfInBounds 14 true) (a.put (some 0) (.map (some m))) W) := Lib.hid (hJ.move hsz 14 0 m es (.inr rfl) e2 e4 e5 l0 (by rw [e1]; simp [frC, Act.put, hl]))
      clear e1 e2 e3 e4 e5 hl
      go_simp
      exact HN.out
  · intro listed a W hsz hall hJ
    change listed.size = 15 at hsz
    have hall' : ∀ i, i < 15 → listed.getD i false = true := hall
    obtain ⟨m, es, e1, e2, e3, e4, e5⟩ := hJ.ex
    obtain ⟨hm, hM⟩ := e2 (hall' 0 (by omega))
    have h0 : a.tmps[0]? = some (.map (some m)) := by rw [e1]; simp only [frC, hall' 14 (by omega)]; rfl
    have hd : a.defers = [] := by rw [e1]; rfl
    have HM := Lib.hid hM
    have HB := Lib.hid hJ.below
    have HE : Hid (∀ j, j ∈ es ↔ j < 4) := Lib.hid (fun j => by
      rw [e5 j]
      exact ⟨fun h => h.1, fun h => ⟨h, hall' _ (by omega)⟩⟩)
    clear e1 e2 e3 e5 hall hall' hJ hM
    go_wp2
    refine bodyPost_ret (v := .map (some m)) (by simp [results, Tryd.f38, go_sem, h0]) hd ⟨m, es, rfl, hm, (Array.getElem?_eq_some_iff.1 HM.out).1, HM.out, HE.out, HB.out⟩
end Go.Proofs.YthbiflmmlcmncaaDoor.Ti
