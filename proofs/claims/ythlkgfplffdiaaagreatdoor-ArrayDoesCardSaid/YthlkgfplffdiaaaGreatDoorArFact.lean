/- What functions make of arrays: plain facts; Dy and Mon in one form. -/
import Derived.Test.YthlkgfplffdiaaaGreatDoorArSh
import Derived.Test.YthlkgfplffdiaaaGreatDoorNuD
namespace Go.Proofs.YthlkgfplffdiaaaGreatDoor.Ar
open Go Go.RowKit Go.Shelf

theorem dyE_ok {g : ByteArray} {a b : Ary} (h : dyE g a b = 0) : rightA a = true ∧ rightA b = true ∧ differA a b = false ∧ Nu.whichD g < 15 ∧ (!takesA g && (hasR a || hasR b)) = false ∧ thrE (fnA g a b) (pairsA a b) = 0 := by
  unfold dyE at h
  split at h
  · rename_i h1
    rw [Bool.and_eq_true] at h1
    split at h
    · rename_i h2
      split at h
      · exact absurd h (by decide)
      · rename_i h3
        split at h
        · exact absurd h (by decide)
        · rename_i h4
          exact ⟨h1.1, h1.2, by simpa using h3, by simpa using h2, by simpa using h4, h⟩
    · exact absurd h (by decide)
  · exact absurd h (by decide)
theorem monE_ok {g : ByteArray} {a : Ary} (h : monE g a = 0) : rightA a = true ∧ hasR a = false ∧ thrE (fun _ y => Nu.monN (Nu.whichM g) y) (pairsA a a) = 0 := by
  unfold monE at h
  split at h
  · rename_i h1
    split at h
    · rename_i h2
      rw [Bool.and_eq_true] at h2
      exact ⟨h1, by simpa using h2.2, h⟩
    · exact absurd h (by decide)
  · exact absurd h (by decide)
theorem thrN_len (h : Int → Int → Int × Int) (L : List (Int × Int)) : (thrN h L).length = L.length := by simp [thrN]
theorem dyL_len (g : ByteArray) (a b : Ary) : (dyL g a b).length = lenP a b := by rw [dyL, thrN_len, pairs_len]
theorem monL_len (g : ByteArray) (a : Ary) : (monL g a).length = a.n.length := by
  rw [monL, thrN_len, pairs_len]
  unfold lenP
  split <;> rfl
theorem fnA_in (g : ByteArray) (a b : Ary) (x y : Int) (hx : Nu.In x) (hy : Nu.In y) : Nu.In (fnA g a b x y).1 := by
  unfold fnA
  split
  · exact Nu.dyN_in _ _ _ hx hy
  · exact Nu.dyN_in _ _ _ (by decide) (by decide)
theorem dyL_in (g : ByteArray) {a b : Ary} (ha : InL a.n) (hb : InL b.n) : InL (dyL g a b) := fun x hx => by
  obtain ⟨q, hq, rfl⟩ := List.mem_map.1 hx
  obtain ⟨h1, h2⟩ := pairs_in ha hb q hq
  exact fnA_in g a b _ _ h1 h2
theorem monL_in (g : ByteArray) {a : Ary} (ha : InL a.n) : InL (monL g a) := fun x hx => by
  obtain ⟨q, hq, rfl⟩ := List.mem_map.1 hx
  obtain ⟨h1, h2⟩ := pairs_in ha ha q hq
  exact Nu.monN_in _ _ h2
/-- What Dy tells. -/
def dyZ (g : ByteArray) (a b : Ary) : Ary := if dyE g a b = 0 then ⟨a.list || b.list, false, dyL g a b⟩ else ⟨false, false, []⟩
def monZ (g : ByteArray) (a : Ary) : Ary := if monE g a = 0 then ⟨a.list, false, monL g a⟩ else ⟨false, false, []⟩
theorem dyZ_in (g : ByteArray) {a b : Ary} (ha : InL a.n) (hb : InL b.n) : InL (dyZ g a b).n := by
  unfold dyZ
  split
  · exact dyL_in g ha hb
  · exact fun x hx => by cases hx
theorem monZ_in (g : ByteArray) {a : Ary} (ha : InL a.n) : InL (monZ g a).n := by
  unfold monZ
  split
  · exact monL_in g ha
  · exact fun x hx => by cases hx
/-- What is told: an array that is owned, and a number. -/
def Tells (Z : Ary) (c : Int) (w : World) (e : Ending) (w' : World) : Prop := ∃ va vn vc, e = .returned (.tuple #[.agg #[.bool Z.list, .bool false, .slice va vn vc], .int .i64 c]) ∧ IOwn w' w.heap.size (.slice va vn vc) Z.n ∧ Below w.heap.size w w'
theorem tells_any {L : Bool} {ns : List Int} {c : Int} {w w' : World} {e : Ending} (ho : OutN L ns c w e w') : Tells (if c = 0 then ⟨L, false, ns⟩ else ⟨false, false, []⟩) c w e w' := by
  by_cases h : c = 0
  · obtain ⟨va, vn, vc, h1, h2, h3⟩ := ho.ok h
    rw [if_pos h]
    subst h
    exact ⟨va, vn, vc, h1, h2, h3⟩
  · obtain ⟨h1, h3⟩ := ho.bad h
    rw [if_neg h]
    exact ⟨_, _, _, h1, IOwn.nil _ _, h3⟩
theorem dyz_c (g : ByteArray) (a b : Ary) (s t : Value) (w : World) (hs : KL w s a.n) (ht : KL w t b.n) (hi : InL a.n) (hj : InL b.n) (hG : Nu.NG w) : Calls Tryz.prog 13 #[.string g, aryV a s, aryV b t] w fun e w' => Tells (dyZ g a b) (dyE g a b) w e w' :=
  (dy_c g a b s t w hs ht hi hj hG).mono fun _ _ ho => tells_any ho
theorem monz_c (g : ByteArray) (a : Ary) (s : Value) (w : World) (hs : KL w s a.n) (hi : InL a.n) (hG : Nu.NG w) : Calls Tryz.prog 10 #[.string g, aryV a s] w fun e w' => Tells (monZ g a) (monE g a) w e w' :=
  (mon_c g a s w hs hi hG).mono fun _ _ ho => tells_any ho
theorem lenP_one {a b : Ary} (hb : rightA b = true) (h : (a.list || b.list) = false) : lenP a b = 1 := by
  rw [Bool.or_eq_false_iff] at h
  unfold lenP
  rw [if_neg (by rw [h.1]; decide)]
  exact (right_cnt hb).2 h.2
theorem dyZ_right {g : ByteArray} {a b : Ary} (h : dyE g a b = 0) : rightA (dyZ g a b) = true ∧ (dyZ g a b).n.length = lenP a b ∧ (dyZ g a b).list = (a.list || b.list) := by
  obtain ⟨h1, h2, h3, -⟩ := dyE_ok h
  unfold dyZ
  rw [if_pos h]
  refine ⟨?_, dyL_len _ _ _, rfl⟩
  unfold rightA cntA
  simp only [dyL_len, Bool.not_false, Bool.true_or, Bool.and_true]
  split
  · exact decide_eq_true (lenP_le h1 h2)
  · rename_i hl
    exact decide_eq_true (lenP_one h2 (by simpa using hl))
theorem monZ_right {g : ByteArray} {a : Ary} (h : monE g a = 0) : rightA (monZ g a) = true ∧ (monZ g a).n.length = a.n.length ∧ (monZ g a).list = a.list := by
  obtain ⟨h1, h2, h3⟩ := monE_ok h
  unfold monZ
  rw [if_pos h]
  refine ⟨?_, monL_len _ _, rfl⟩
  unfold rightA cntA
  simp only [monL_len, Bool.not_false, Bool.true_or, Bool.and_true]
  split
  · exact decide_eq_true (right_cnt h1).1
  · rename_i hl
    exact decide_eq_true ((right_cnt h1).2 (by simpa using hl))
theorem dyZ_bad {g : ByteArray} {a b : Ary} (h : dyE g a b ≠ 0) : dyZ g a b = ⟨false, false, []⟩ := by rw [dyZ, if_neg h]
theorem monZ_bad {g : ByteArray} {a : Ary} (h : monE g a ≠ 0) : monZ g a = ⟨false, false, []⟩ := by rw [monZ, if_neg h]

/-! ### An array and itself; two, either way about -/
theorem thrE_none {h : Int → Int → Int × Int} {L : List (Int × Int)} (h0 : thrE h L = 0) : ∀ p ∈ L, (h p.1 p.2).2 = 0 := by
  intro p hp
  unfold thrE at h0
  cases hf : L.find? (fun p => (h p.1 p.2).2 != 0) with
  | none => simpa using List.find?_eq_none.1 hf p hp
  | some q =>
    rw [hf] at h0
    have := List.find?_some hf
    simp at this
    exact absurd h0 this
theorem self_eq (a : Ary) : dyE ⟨#[61]⟩ a a = if rightA a then 0 else 114 := by
  unfold dyE
  cases ha : rightA a with
  | false => rfl
  | true =>
    rw [if_pos (by rfl), if_pos (by kernel_rfl), if_neg (by simp [differA]), if_neg (by rw [show takesA ⟨#[61]⟩ = true from by kernel_rfl]; simp)]
    rw [if_pos rfl]
    refine thrE_ok fun p hp => ?_
    unfold fnA
    rw [if_pos rfl, show Nu.whichD ⟨#[61]⟩ = 7 from by kernel_rfl]
    rfl
theorem self_ones (a : Ary) : ∀ x ∈ (dyZ ⟨#[61]⟩ a a).n, x = 1 := by
  intro x hx
  unfold dyZ at hx
  split at hx
  · obtain ⟨q, hq, rfl⟩ := List.mem_map.1 hx
    obtain ⟨i, _, rfl⟩ := List.mem_map.1 hq
    unfold fnA
    rw [if_pos rfl, show Nu.whichD ⟨#[61]⟩ = 7 from by kernel_rfl]
    show Nu.bit (decide (itemA a i = itemA a i)) = 1
    rw [decide_eq_true rfl]
    rfl
  · cases hx
theorem fnA_comm (a b : Ary) (x y : Int) : fnA ⟨#[43]⟩ b a y x = fnA ⟨#[43]⟩ a b x y := by
  unfold fnA
  rw [show Nu.whichD ⟨#[43]⟩ = 0 from by kernel_rfl]
  by_cases h : a.runes = b.runes
  · rw [if_pos h, if_pos h.symm]
    show Nu.ovr (y + x) = Nu.ovr (x + y)
    rw [Int.add_comm]
  · rw [if_neg h, if_neg (fun e => h e.symm)]
theorem lenP_comm {a b : Ary} (ha : rightA a = true) (hb : rightA b = true) (hd : differA a b = false) : lenP b a = lenP a b := by
  have h1 := (right_cnt ha).2
  have h2 := (right_cnt hb).2
  unfold lenP
  unfold differA at hd
  cases ea : a.list <;> cases eb : b.list
  · rw [h1 ea, h2 eb]
  · rfl
  · rfl
  · rw [ea, eb] at hd
    simp at hd
    simp [hd]
theorem differ_comm (a b : Ary) : differA b a = differA a b := by
  unfold differA
  rw [Bool.and_comm b.list a.list]
  congr 1
  rw [decide_eq_decide]
  exact ⟨fun h e => h e.symm, fun h e => h e.symm⟩
theorem pairs_comm {a b : Ary} (h : lenP b a = lenP a b) : pairsA b a = (pairsA a b).map fun p => (p.2, p.1) := by
  unfold pairsA
  rw [h, List.map_map]
  rfl
theorem thr_comm {a b : Ary} (h : lenP b a = lenP a b) : thrN (fnA ⟨#[43]⟩ b a) (pairsA b a) = thrN (fnA ⟨#[43]⟩ a b) (pairsA a b) ∧ thrE (fnA ⟨#[43]⟩ b a) (pairsA b a) = thrE (fnA ⟨#[43]⟩ a b) (pairsA a b) := by
  rw [pairs_comm h]
  have hf : ∀ p : Int × Int, fnA ⟨#[43]⟩ b a p.2 p.1 = fnA ⟨#[43]⟩ a b p.1 p.2 := fun p => fnA_comm a b p.1 p.2
  constructor
  · unfold thrN
    rw [List.map_map]
    exact List.map_congr_left fun p _ => by simp only [Function.comp, hf]
  · unfold thrE
    rw [List.find?_map]
    have : ((fun p : Int × Int => (fnA ⟨#[43]⟩ b a p.1 p.2).2 != 0) ∘ fun p : Int × Int => (p.2, p.1)) = fun p : Int × Int => (fnA ⟨#[43]⟩ a b p.1 p.2).2 != 0 := by
      funext p
      simp only [Function.comp, hf]
    rw [this]
    cases (pairsA a b).find? fun p : Int × Int => (fnA ⟨#[43]⟩ a b p.1 p.2).2 != 0 with
    | none => rfl
    | some p => simp only [Option.map_some, hf]
theorem sum_comm (a b : Ary) : dyE ⟨#[43]⟩ b a = dyE ⟨#[43]⟩ a b ∧ dyZ ⟨#[43]⟩ b a = dyZ ⟨#[43]⟩ a b := by
  have key : dyE ⟨#[43]⟩ b a = dyE ⟨#[43]⟩ a b := by
    unfold dyE
    rw [Bool.and_comm (rightA b), differ_comm, Bool.or_comm (hasR b)]
    split
    · rename_i h1
      rw [Bool.and_eq_true] at h1
      split
      · split
        · rfl
        · rename_i h3
          split
          · rfl
          · exact (thr_comm (lenP_comm h1.1 h1.2 (by simpa using h3))).2
      · rfl
    · rfl
  refine ⟨key, ?_⟩
  unfold dyZ
  rw [key]
  split
  · rename_i h
    obtain ⟨h1, h2, h3, -⟩ := dyE_ok h
    unfold dyL
    rw [(thr_comm (lenP_comm h1 h2 h3)).1, Bool.or_comm]
  · rfl
theorem sum_bad {a b : Ary} (h : rightA a = false) : dyE ⟨#[43]⟩ a b = 114 ∧ dyE ⟨#[43]⟩ b a = 114 := by
  refine ⟨?_, ?_⟩
  · unfold dyE
    rw [if_neg (by rw [h, Bool.false_and]; decide)]
  · unfold dyE
    rw [if_neg (by rw [h, Bool.and_false]; decide)]
end Go.Proofs.YthlkgfplffdiaaaGreatDoor.Ar
