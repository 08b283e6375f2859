/- What was joined, and its kids: they are the parts again. -/
import Derived.Test.YtbegplfijjbpcaaDoorNoInj
namespace Go.Proofs.YtbegplfijjbpcaaDoor.No
open Go Go.RowKit Go.Shelf

/-- The list T holds the tree K from a place on. -/
def Seg (T K : List Nd) (off : Nat) : Prop := ∀ (k : Nat) (x : Nd), K[k]? = some x → T[off + k]? = some (movN (off : Int) x)
theorem mov_kids (b : Int) (x : Nd) : (movN b x).kids = x.kids.map (· + b) := rfl
theorem mov_back (b : Int) (x : Nd) : movN (-b) (movN b x) = x := by
  have h : x.kids.map ((fun a : Int => a + -b) ∘ (fun a : Int => a + b)) = x.kids := by
    have : ((fun a : Int => a + -b) ∘ (fun a : Int => a + b)) = id := funext (fun a => by show a + b + -b = a; omega)
    rw [this, List.map_id]
  cases x
  simp only [movN, List.map_map] at h ⊢
  rw [h]
theorem Seg.kids {K : List Nd} {off : Nat} (hK : KidsOk K) {k : Nat} {x : Nd} (hx : K[k]? = some x) : ∀ a ∈ (movN (off : Int) x).kids, 0 ≤ a ∧ a < ((off + k : Nat) : Int) := fun a ha => by
  rw [mov_kids] at ha
  obtain ⟨b, hb, rfl⟩ := List.mem_map.1 ha
  have := hK k x hx b hb
  show 0 ≤ b + (off : Int) ∧ b + (off : Int) < _
  omega
section
variable {α : Type}
theorem Seg.tell {T K : List Nd} {off : Nat} (h : Seg T K off) (hK : KidsOk K) (comb : Nat → Nd → List α → α) (d : α) (sh : α → α) (hs : ∀ (k : Nat) (x : Nd) (l : List α), comb (off + k) (movN (off : Int) x) (l.map sh) = sh (comb k x l)) : ∀ k, k < K.length → val comb d T (off + k) = sh (val comb d K k) := fun k => by
  induction k using Nat.strongRecOn with
  | _ k ih =>
    intro hk
    obtain ⟨x, hx⟩ : ∃ x, K[k]? = some x := ⟨_, List.getElem?_eq_getElem hk⟩
    rw [val_eq comb d (h k x hx) (Seg.kids hK hx), val_eq comb d hx (hK k x hx), mov_kids, List.map_map, ← hs, List.map_map]
    congr 1
    apply List.map_congr_left
    intro a ha
    have := hK k x hx a ha
    show val comb d T (a + (off : Int)).toNat = sh (val comb d K a.toNat)
    rw [show (a + (off : Int)).toNat = off + a.toNat by omega]
    exact ih a.toNat (by omega) (by omega)
end
theorem Seg.deep {T K : List Nd} {off : Nat} (h : Seg T K off) (hK : KidsOk K) {k : Nat} (hk : k < K.length) : val deepC 0 T (off + k) = val deepC 0 K k :=
  h.tell hK deepC 0 id (fun k x l => by rw [List.map_id]; rfl) k hk
theorem Seg.shown {T K : List Nd} {off : Nat} (h : Seg T K off) (hK : KidsOk K) {k : Nat} (hk : k < K.length) : val showC [] T (off + k) = val showC [] K k :=
  h.tell hK showC [] id (fun k x l => by
    rw [List.map_id]
    unfold showC
    have e : headB (movN (off : Int) x) = headB x := rfl
    have e2 : ((movN (off : Int) x).kids = []) = (x.kids = []) := by rw [mov_kids]; simp
    rw [e]
    simp only [e2]
    rfl) k hk
theorem min_shift (off : Nat) : ∀ (l : List Nat) (k : Nat), (l.map (off + ·)).foldl min (off + k) = off + l.foldl min k
  | [], _ => rfl
  | a :: l, k => by
    show (l.map (off + ·)).foldl min (min (off + k) (off + a)) = off + l.foldl min (min k a)
    rw [← min_shift off l (min k a)]
    congr 1
    omega
theorem Seg.first {T K : List Nd} {off : Nat} (h : Seg T K off) (hK : KidsOk K) {k : Nat} (hk : k < K.length) : val firstC 0 T (off + k) = off + val firstC 0 K k :=
  h.tell hK firstC 0 (off + ·) (fun k _ l => min_shift off l k) k hk
/-! ### A right tree's root reaches all -/
theorem first_kid {T : List Nd} (h : KidsOk T) {i : Nat} {x : Nd} (hx : T[i]? = some x) {a : Int} (ha : a ∈ x.kids) : val firstC 0 T i ≤ val firstC 0 T a.toNat := by
  rw [first_eq h hx]
  unfold accF
  have : ∀ (l : List Nat) (b c : Nat), c ∈ l → l.foldl min b ≤ c := fun l => by
    induction l with
    | nil => intro b c h; cases h
    | cons e l ih =>
      intro b c h
      show l.foldl min (min b e) ≤ c
      rcases List.mem_cons.1 h with rfl | h
      · exact foldl_min_le l _ _ (Nat.min_le_right _ _)
      · exact ih _ _ h
  exact this _ _ _ (List.mem_map.2 ⟨a, ha, rfl⟩)
theorem root_first {T : List Nd} (h : RightT T) : val firstC 0 T (T.length - 1) = 0 := by
  have key : ∀ m j, T.length - 1 - j = m → j < T.length → val firstC 0 T j = 0 → val firstC 0 T (T.length - 1) = 0 := fun m => by
    induction m using Nat.strongRecOn with
    | _ m ih =>
      intro j hm hj hz
      by_cases e : j + 1 < T.length
      · have hc := h.once j e
        have hmem : (j : Int) ∈ allKids T := by
          apply List.count_pos_iff.1
          omega
        unfold allKids at hmem
        obtain ⟨x, hx, hax⟩ := List.mem_flatMap.1 hmem
        obtain ⟨i, hi⟩ := List.getElem?_of_mem hx
        have hl := h.kid hi (j : Int) hax
        have hlt := (List.getElem?_eq_some_iff.1 hi).1
        have h1 := first_kid h.kidsOk hi hax
        rw [Int.toNat_natCast, hz] at h1
        exact ih (T.length - 1 - i) (by omega) i rfl hlt (by omega)
      · rw [show T.length - 1 = j by omega]
        exact hz
  have hp := h.pos
  exact key _ 0 rfl (by omega) (by have := first_le h.kidsOk (i := 0) (by omega); omega)
/-! ### Joined -/
def partsL : List (List Nd) → Nat → List Nd
  | [], _ => []
  | K :: KS, off => K.map (movN (off : Int)) ++ partsL KS (off + K.length)
def rootsL : List (List Nd) → Nat → List Int
  | [], _ => []
  | K :: KS, off => (((off + K.length : Nat) : Int) - 1) :: rootsL KS (off + K.length)
def offs : List (List Nd) → Nat → Nat
  | [], _ => 0
  | _ :: _, 0 => 0
  | K :: KS, i + 1 => K.length + offs KS i
theorem jn_eq : ∀ (KS : List (List Nd)) (out : List Nd) (r : List Int), jn KS out r = (out ++ partsL KS out.length, r ++ rootsL KS out.length)
  | [], out, r => by simp [jn, partsL, rootsL]
  | K :: KS, out, r => by
    show jn KS (out ++ K.map (movN (out.length : Int))) (r ++ [((out.length + K.length : Nat) : Int) - 1]) = _
    rw [jn_eq KS]
    simp only [List.length_append, List.length_map, partsL, rootsL, List.append_assoc, List.singleton_append]
theorem join_eq (kind : Int) (text : List UInt8) (KS : List (List Nd)) : joinL kind text KS = partsL KS 0 ++ [⟨kind, text, rootsL KS 0⟩] := by
  unfold joinL
  rw [jn_eq]
  rfl
theorem roots_len : ∀ (KS : List (List Nd)) (off : Nat), (rootsL KS off).length = KS.length
  | [], _ => rfl
  | K :: KS, off => by
    show (rootsL KS _).length + 1 = KS.length + 1
    rw [roots_len KS]
theorem roots_at : ∀ (KS : List (List Nd)) (off i : Nat) (K : List Nd), KS[i]? = some K → (rootsL KS off)[i]? = some (((off + offs KS i + K.length : Nat) : Int) - 1)
  | [], _, _, _, h => by simp at h
  | L :: KS, off, 0, K, h => by
    simp at h
    subst h
    show some _ = some _
    simp [offs]
  | L :: KS, off, i + 1, K, h => by
    have h1 := roots_at KS (off + L.length) i K (by simpa using h)
    show (rootsL KS (off + L.length))[i]? = _
    rw [h1]
    congr 3
    show off + L.length + offs KS i + K.length = off + (L.length + offs KS i) + K.length
    omega
theorem parts_at : ∀ (KS : List (List Nd)) (off i : Nat) (K : List Nd), KS[i]? = some K → ∀ (k : Nat) (x : Nd), K[k]? = some x → (partsL KS off)[offs KS i + k]? = some (movN ((off + offs KS i : Nat) : Int) x)
  | [], _, _, _, h, _, _, _ => by simp at h
  | L :: KS, off, 0, K, h, k, x, hx => by
    simp at h
    subst h
    have hk := (List.getElem?_eq_some_iff.1 hx).1
    show (L.map (movN (off : Int)) ++ partsL KS (off + L.length))[0 + k]? = _
    rw [Nat.zero_add, List.getElem?_append_left (by rw [List.length_map]; exact hk), List.getElem?_map, hx]
    rfl
  | L :: KS, off, i + 1, K, h, k, x, hx => by
    have h1 := parts_at KS (off + L.length) i K (by simpa using h) k x hx
    show (L.map (movN (off : Int)) ++ partsL KS (off + L.length))[L.length + offs KS i + k]? = _
    rw [List.getElem?_append_right (by rw [List.length_map]; omega), List.length_map, show L.length + offs KS i + k - L.length = offs KS i + k by omega, h1]
    congr 2
    show ((off + L.length + offs KS i : Nat) : Int) = ((off + (L.length + offs KS i) : Nat) : Int)
    omega
theorem join_seg {kind : Int} {text : List UInt8} {KS : List (List Nd)} {i : Nat} {K : List Nd} (h : KS[i]? = some K) : Seg (joinL kind text KS) K (offs KS i) := fun k x hx => by
  rw [join_eq]
  have h1 := parts_at KS 0 i K h k x hx
  rw [List.getElem?_append_left (List.getElem?_eq_some_iff.1 h1).1, h1, Nat.zero_add]
theorem join_root (kind : Int) (text : List UInt8) (KS : List (List Nd)) : rootK (joinL kind text KS) = rootsL KS 0 := by
  unfold rootK
  rw [join_eq]
  simp
/-- A kid of what was joined is the part. -/
theorem kid_part {kind : Int} {text : List UInt8} {KS : List (List Nd)} (hT : rightB (joinL kind text KS) = true) {i : Nat} {K : List Nd} (h : KS[i]? = some K) (hK : rightB K = true) : kidA (joinL kind text KS) (i : Int) = (K, 0) := by
  have hKR := (right_iff K).1 hK
  have hp := hKR.pos
  have hseg := join_seg (kind := kind) (text := text) h
  have hi := (List.getElem?_eq_some_iff.1 h).1
  have hr := roots_at KS 0 i K h
  have hat : (((rootsL KS 0)[(i : Int).toNat]?).getD 0).toNat = offs KS i + (K.length - 1) := by
    rw [Int.toNat_natCast, hr]
    show (((0 + offs KS i + K.length : Nat) : Int) - 1).toNat = _
    omega
  have hf : val firstC 0 (joinL kind text KS) (offs KS i + (K.length - 1)) = offs KS i := by
    rw [hseg.first hKR.kidsOk (by omega), root_first hKR]
    rfl
  have hkl : kidL (joinL kind text KS) (offs KS i + (K.length - 1)) = K := by
    unfold kidL
    rw [hf]
    apply List.ext_getElem?
    intro k
    rw [List.getElem?_map, List.getElem?_drop, List.getElem?_take]
    by_cases hk : k < K.length
    · obtain ⟨x, hx⟩ : ∃ x, K[k]? = some x := ⟨_, List.getElem?_eq_getElem hk⟩
      rw [if_pos (by omega), hseg k x hx, hx]
      show some (movN (-((offs KS i : Nat) : Int)) (movN _ x)) = some x
      rw [mov_back]
    · rw [if_neg (by omega), List.getElem?_eq_none (by omega)]
      rfl
  unfold kidA
  rw [join_root, hat, hkl, hT, hK, roots_len]
  rw [decide_eq_true (show (0 : Int) ≤ (i : Int) by omega), decide_eq_true (show (i : Int) < ((KS.length : Nat) : Int) by omega)]
  rfl
theorem kid_past {kind : Int} {text : List UInt8} {KS : List (List Nd)} {i : Nat} (h : KS.length ≤ i) : kidA (joinL kind text KS) (i : Int) = ([], 70) := by
  unfold kidA
  rw [join_root, roots_len, decide_eq_false (show ¬ (i : Int) < ((KS.length : Nat) : Int) by omega)]
  simp
theorem parts_len : ∀ (KS : List (List Nd)) (off : Nat), (partsL KS off).length = sumL (KS.map List.length)
  | [], _ => rfl
  | K :: KS, off => by
    show (K.map (movN (off : Int)) ++ partsL KS (off + K.length)).length = K.length + sumL (KS.map List.length)
    rw [List.length_append, List.length_map, parts_len KS]
theorem join_len (kind : Int) (text : List UInt8) (KS : List (List Nd)) : (joinL kind text KS).length = sumL (KS.map List.length) + 1 := by
  rw [join_eq, List.length_append, parts_len]
  rfl
theorem deep_right {T : List Nd} (h : RightT T) : deepA T = val deepC 0 T (T.length - 1) := by
  unfold deepA
  rw [(right_iff T).2 h, if_pos rfl]
/-- How deep what was joined is. -/
theorem deep_join {kind : Int} {text : List UInt8} {KS : List (List Nd)} (hT : RightT (joinL kind text KS)) (hK : ∀ K ∈ KS, RightT K) : deepA (joinL kind text KS) = (KS.map deepA).foldl max 0 + 1 := by
  rw [deep_right hT]
  have hr : (joinL kind text KS)[(joinL kind text KS).length - 1]? = some ⟨kind, text, rootsL KS 0⟩ := by
    rw [join_eq]
    simp
  rw [val_eq deepC 0 hr (hT.kid hr)]
  show (List.map _ (rootsL KS 0)).foldl max 0 + 1 = _
  congr 2
  apply List.ext_getElem?
  intro i
  rw [List.getElem?_map, List.getElem?_map]
  cases h : KS[i]? with
  | none =>
    rw [List.getElem?_eq_none (by rw [roots_len]; exact List.getElem?_eq_none_iff.1 h)]
    rfl
  | some K =>
    rw [roots_at KS 0 i K h]
    have hKR := hK K (List.mem_of_getElem? h)
    have hp := hKR.pos
    show some (val deepC 0 _ (((0 + offs KS i + K.length : Nat) : Int) - 1).toNat) = some (deepA K)
    rw [show (((0 + offs KS i + K.length : Nat) : Int) - 1).toNat = offs KS i + (K.length - 1) by omega, (join_seg h).deep hKR.kidsOk (by omega), deep_right hKR]
/-- A tree of one node. -/
theorem leaf_eq (kind : Int) (text : List UInt8) : joinL kind text [] = [⟨kind, text, []⟩] := rfl
theorem leaf_text {kind : Int} {text : List UInt8} (h : RightT [⟨kind, text, []⟩]) : text ≠ [] := fun e => by
  have h1 := (h.node 0 ⟨kind, text, []⟩ rfl).1
  subst e
  unfold formB at h1
  repeat' split at h1
  all_goals simp at h1
theorem leaf_deep {kind : Int} {text : List UInt8} (h : RightT [⟨kind, text, []⟩]) : deepA [⟨kind, text, []⟩] = 1 := by
  rw [deep_right h]
  rfl
/-- What Join tells. -/
theorem joinA_ok {kind : Int} {text : List UInt8} {KS : List (List Nd)} (h : (joinA kind text KS).2 = 0) : (joinA kind text KS).1 = joinL kind text KS ∧ RightT (joinL kind text KS) ∧ ∀ K ∈ KS, RightT K := by
  unfold joinA at h ⊢
  split at h
  · rename_i hc
    rw [if_pos hc]
    simp only [Bool.and_eq_true, List.all_eq_true] at hc
    exact ⟨rfl, (right_iff _).1 hc.2, fun K hK => (right_iff K).1 (hc.1 K hK)⟩
  · cases h
theorem joinA_no {kind : Int} {text : List UInt8} {KS : List (List Nd)} (h : (joinA kind text KS).2 ≠ 0) : joinA kind text KS = ([], 70) := by
  unfold joinA at h ⊢
  split at h
  · exact absurd rfl h
  · rename_i hc
    rw [if_neg hc]
end Go.Proofs.YtbegplfijjbpcaaDoor.No
