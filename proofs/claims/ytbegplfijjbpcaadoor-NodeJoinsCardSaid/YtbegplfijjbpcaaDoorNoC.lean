/- Merged by gen/nq_merge.py: NoInj, NoBack, NoOwn, NoSame. -/
import Derived.Test.YtbegplfijjbpcaaDoorNoB
import Derived.Test.YtbegplfijjbpcaaDoorNoA
/- A show tells the kind and the text of what it is of. -/
namespace Go.Proofs.YtbegplfijjbpcaaDoor.No
open Go Go.RowKit Go.Shelf

theorem hex_inj : ∀ a, a < 16 → ∀ b, b < 16 → hexB a = hexB b → a = b := by decide
theorem good_ne {c : UInt8} (h : badB c = false) : c ≠ 37 := fun e => by
  have := (bad_iff c).2 (.inr (.inr (.inl (by rw [e]; rfl))))
  rw [this] at h
  cases h
theorem esc_bad {c : UInt8} (h : badB c = true) : escB c = [37, hexB (c.toNat / 16), hexB (c.toNat % 16)] := by unfold escB; rw [if_pos h]
theorem esc_good {c : UInt8} (h : badB c = false) : escB c = [c] := by unfold escB; rw [h]; rfl
theorem word_cons (c : UInt8) (X : List UInt8) : wordB (c :: X) = escB c ++ wordB X := rfl
theorem word_inj : ∀ a b : List UInt8, wordB a = wordB b → a = b
  | [], [], _ => rfl
  | [], d :: Y, h => by
    rw [word_cons] at h
    cases hb : badB d
    · rw [esc_good hb] at h; cases h
    · rw [esc_bad hb] at h; cases h
  | c :: X, [], h => by
    rw [word_cons] at h
    cases hb : badB c
    · rw [esc_good hb] at h; cases h
    · rw [esc_bad hb] at h; cases h
  | c :: X, d :: Y, h => by
    rw [word_cons, word_cons] at h
    cases hc : badB c <;> cases hd : badB d
    · rw [esc_good hc, esc_good hd] at h
      injection h with h1 h2
      rw [h1, word_inj X Y h2]
    · rw [esc_good hc, esc_bad hd] at h
      injection h with h1 h2
      exact absurd h1 (good_ne hc)
    · rw [esc_bad hc, esc_good hd] at h
      injection h with h1 h2
      exact absurd h1.symm (good_ne hd)
    · rw [esc_bad hc, esc_bad hd] at h
      injection h with h1 h2
      injection h2 with h2 h3
      injection h3 with h3 h4
      have l1 := UInt8.toNat_lt c
      have l2 := UInt8.toNat_lt d
      have e1 := hex_inj _ (by omega) _ (by omega) h2
      have e2 := hex_inj _ (by omega) _ (by omega) h3
      have e : c = d := UInt8.toNat_inj.1 (by omega)
      rw [e, word_inj X Y h4]
theorem dig_inj : ∀ a, a < 15 → ∀ b, b < 15 → ∀ (X Y : List UInt8), digB ((a : Nat) : Int) ++ 58 :: X = digB ((b : Nat) : Int) ++ 58 :: Y → a = b ∧ X = Y := fun a ha b hb X Y h => by
  have hs : ∀ k, k < 15 → (digB ((k : Nat) : Int) = [49, (38 + k).toUInt8] ∧ 10 ≤ k) ∨ (digB ((k : Nat) : Int) = [(48 + k).toUInt8] ∧ k ≤ 9) := by decide
  have hn : ∀ k, k < 15 → (38 + k).toUInt8 ≠ 58 ∧ (48 + k).toUInt8 ≠ 58 ∨ 10 ≤ k := by decide
  have hm : ∀ k, k < 15 → 10 ≤ k → (38 + k).toUInt8 ≠ 58 := by decide
  have h49 : (49 : UInt8) ≠ 58 := by decide
  have i1 : ∀ a, a < 15 → ∀ b, b < 15 → (38 + a).toUInt8 = (38 + b).toUInt8 → a = b := by decide
  have i2 : ∀ a, a < 15 → ∀ b, b < 15 → (48 + a).toUInt8 = (48 + b).toUInt8 → a = b := by decide
  rcases hs a ha with ⟨ea, la⟩ | ⟨ea, la⟩ <;> rcases hs b hb with ⟨eb, lb⟩ | ⟨eb, lb⟩ <;> rw [ea, eb] at h
  · injection h with _ h
    injection h with h1 h2
    injection h2 with _ h2
    exact ⟨i1 a ha b hb h1, h2⟩
  · injection h with _ h
    injection h with h1 h2
    exact absurd h1 (hm a ha la)
  · injection h with _ h
    injection h with h1 h2
    exact absurd h1.symm (hm b hb lb)
  · injection h with h1 h
    injection h with _ h2
    exact ⟨i2 a ha b hb h1, h2⟩
theorem head_inj {x y : Nd} (hx : 1 ≤ x.kind ∧ x.kind ≤ 14) (hy : 1 ≤ y.kind ∧ y.kind ≤ 14) (h : headB x = headB y) : x.kind = y.kind ∧ x.text = y.text := by
  obtain ⟨a, ha⟩ : ∃ a : Nat, x.kind = (a : Int) := ⟨x.kind.toNat, by omega⟩
  obtain ⟨b, hb⟩ : ∃ a : Nat, y.kind = (a : Int) := ⟨y.kind.toNat, by omega⟩
  unfold headB at h
  rw [ha, hb] at h
  have := dig_inj a (by omega) b (by omega) _ _ h
  exact ⟨by omega, word_inj _ _ this.2⟩
theorem head_ne (x : Nd) : headB x ≠ [] := by
  unfold headB
  intro h
  have := congrArg List.length h
  rw [List.length_append, List.length_cons] at this
  simp at this

/-! ### What stands ahead tells the same -/
section
variable {α : Type}
theorem val_app (comb : Nat → Nd → List α → α) (d : α) (S R : List Nd) {i : Nat} (h : i < S.length) : val comb d (S ++ R) i = val comb d S i := by
  obtain ⟨r, hr⟩ := tab_app comb d S R
  unfold val
  rw [hr, List.getElem?_append_left (by rw [tab_len]; exact h)]
end
theorem root_at (P : List Nd) (r : Nd) : (P ++ [r])[P.length]? = some r := by simp
/-- The show of a root, of what stands ahead of it and its own. -/
theorem show_root {P : List Nd} {r : Nd} (h : KidsOk (P ++ [r])) : val showC [] (P ++ [r]) P.length = showC P.length r (r.kids.map fun k => val showC [] P k.toNat) := by
  rw [val_eq showC [] (root_at P r) (h _ _ (root_at P r))]
  congr 1
  apply List.map_congr_left
  intro k hk
  have := h _ _ (root_at P r) k hk
  exact val_app showC [] P [r] (by omega)
/-- Two roots over the same kids: they show the same just if they are the same. -/
theorem show_same {P : List Nd} {r s : Nd} (hk : r.kids = s.kids) (hr : RightT (P ++ [r])) (hs : RightT (P ++ [s])) (h1 : 1 ≤ r.kind ∧ r.kind ≤ 14) (h2 : 1 ≤ s.kind ∧ s.kind ≤ 14) : showA (P ++ [r]) = showA (P ++ [s]) ↔ r = s := by
  constructor
  · intro h
    unfold showA at h
    rw [(right_iff _).2 hr, (right_iff _).2 hs, if_pos rfl, if_pos rfl] at h
    simp only [List.length_append, List.length_singleton, Nat.add_sub_cancel] at h
    rw [show_root hr.kidsOk, show_root hs.kidsOk, hk] at h
    have hh : headB r = headB s := by
      unfold showC at h
      rw [hk] at h
      by_cases e : s.kids = []
      · rw [if_pos e, if_pos e] at h
        exact h
      · rw [if_neg e, if_neg e] at h
        have h3 := List.append_cancel_right h
        injection h3 with _ h3
        exact List.append_cancel_right h3
    have := head_inj h1 h2 hh
    cases r
    cases s
    simp only [Nd.mk.injEq]
    exact ⟨this.1, this.2, hk⟩
  · rintro rfl
    rfl
theorem show_ne {T : List Nd} (h : RightT T) : showA T ≠ [] := by
  have hp := h.pos
  unfold showA
  rw [(right_iff _).2 h, if_pos rfl]
  obtain ⟨x, hx⟩ : ∃ x, T[T.length - 1]? = some x := ⟨_, List.getElem?_eq_getElem (by omega)⟩
  rw [show_eq h.kidsOk hx]
  split
  · exact head_ne x
  · intro h
    cases h
end Go.Proofs.YtbegplfijjbpcaaDoor.No
/- What was joined, and its kids: they are the parts again. -/
namespace Go.Proofs.YtbegplfijjbpcaaDoor.No
open Go Go.RowKit Go.Shelf

/-- The list T holds the tree K from a place on. -/
def Seg (T K : List Nd) (off : Nat) : Prop := ∀ (k : Nat) (x : Nd), K[k]? = some x → T[off + k]? = some (movN (off : Int) x)
theorem mov_kids (b : Int) (x : Nd) : (movN b x).kids = x.kids.map (· + b) := rfl
theorem mov_back (b : Int) (x : Nd) : movN (-b) (movN b x) = x := by
  have h : x.kids.map ((fun a : Int => a + -b) ∘ (fun a : Int => a + b)) = x.kids := by
    have : ((fun a : Int => a + -b) ∘ (fun a : Int => a + b)) = id := funext (fun a => by show a + b + -b = a; omega)
    rw [this, List.map_id]
  cases x
  simp only [movN, List.map_map] at h ⊢
  rw [h]
theorem Seg.kids {K : List Nd} {off : Nat} (hK : KidsOk K) {k : Nat} {x : Nd} (hx : K[k]? = some x) : ∀ a ∈ (movN (off : Int) x).kids, 0 ≤ a ∧ a < ((off + k : Nat) : Int) := fun a ha => by
  rw [mov_kids] at ha
  obtain ⟨b, hb, rfl⟩ := List.mem_map.1 ha
  have := hK k x hx b hb
  show 0 ≤ b + (off : Int) ∧ b + (off : Int) < _
  omega
section
variable {α : Type}
theorem Seg.tell {T K : List Nd} {off : Nat} (h : Seg T K off) (hK : KidsOk K) (comb : Nat → Nd → List α → α) (d : α) (sh : α → α) (hs : ∀ (k : Nat) (x : Nd) (l : List α), comb (off + k) (movN (off : Int) x) (l.map sh) = sh (comb k x l)) : ∀ k, k < K.length → val comb d T (off + k) = sh (val comb d K k) := fun k => by
  induction k using Nat.strongRecOn with
  | _ k ih =>
    intro hk
    obtain ⟨x, hx⟩ : ∃ x, K[k]? = some x := ⟨_, List.getElem?_eq_getElem hk⟩
    rw [val_eq comb d (h k x hx) (Seg.kids hK hx), val_eq comb d hx (hK k x hx), mov_kids, List.map_map, ← hs, List.map_map]
    congr 1
    apply List.map_congr_left
    intro a ha
    have := hK k x hx a ha
    show val comb d T (a + (off : Int)).toNat = sh (val comb d K a.toNat)
    rw [show (a + (off : Int)).toNat = off + a.toNat by omega]
    exact ih a.toNat (by omega) (by omega)
end
theorem Seg.deep {T K : List Nd} {off : Nat} (h : Seg T K off) (hK : KidsOk K) {k : Nat} (hk : k < K.length) : val deepC 0 T (off + k) = val deepC 0 K k :=
  h.tell hK deepC 0 id (fun k x l => by rw [List.map_id]; rfl) k hk
theorem Seg.shown {T K : List Nd} {off : Nat} (h : Seg T K off) (hK : KidsOk K) {k : Nat} (hk : k < K.length) : val showC [] T (off + k) = val showC [] K k :=
  h.tell hK showC [] id (fun k x l => by
    rw [List.map_id]
    unfold showC
    have e : headB (movN (off : Int) x) = headB x := rfl
    have e2 : ((movN (off : Int) x).kids = []) = (x.kids = []) := by rw [mov_kids]; simp
    rw [e]
    simp only [e2]
    rfl) k hk
theorem min_shift (off : Nat) : ∀ (l : List Nat) (k : Nat), (l.map (off + ·)).foldl min (off + k) = off + l.foldl min k
  | [], _ => rfl
  | a :: l, k => by
    show (l.map (off + ·)).foldl min (min (off + k) (off + a)) = off + l.foldl min (min k a)
    rw [← min_shift off l (min k a)]
    congr 1
    omega
theorem Seg.first {T K : List Nd} {off : Nat} (h : Seg T K off) (hK : KidsOk K) {k : Nat} (hk : k < K.length) : val firstC 0 T (off + k) = off + val firstC 0 K k :=
  h.tell hK firstC 0 (off + ·) (fun k _ l => min_shift off l k) k hk
/-! ### A right tree's root reaches all -/
theorem first_kid {T : List Nd} (h : KidsOk T) {i : Nat} {x : Nd} (hx : T[i]? = some x) {a : Int} (ha : a ∈ x.kids) : val firstC 0 T i ≤ val firstC 0 T a.toNat := by
  rw [first_eq h hx]
  unfold accF
  have : ∀ (l : List Nat) (b c : Nat), c ∈ l → l.foldl min b ≤ c := fun l => by
    induction l with
    | nil => intro b c h; cases h
    | cons e l ih =>
      intro b c h
      show l.foldl min (min b e) ≤ c
      rcases List.mem_cons.1 h with rfl | h
      · exact foldl_min_le l _ _ (Nat.min_le_right _ _)
      · exact ih _ _ h
  exact this _ _ _ (List.mem_map.2 ⟨a, ha, rfl⟩)
theorem root_first {T : List Nd} (h : RightT T) : val firstC 0 T (T.length - 1) = 0 := by
  have key : ∀ m j, T.length - 1 - j = m → j < T.length → val firstC 0 T j = 0 → val firstC 0 T (T.length - 1) = 0 := fun m => by
    induction m using Nat.strongRecOn with
    | _ m ih =>
      intro j hm hj hz
      by_cases e : j + 1 < T.length
      · have hc := h.once j e
        have hmem : (j : Int) ∈ allKids T := by
          apply List.count_pos_iff.1
          omega
        unfold allKids at hmem
        obtain ⟨x, hx, hax⟩ := List.mem_flatMap.1 hmem
        obtain ⟨i, hi⟩ := List.getElem?_of_mem hx
        have hl := h.kid hi (j : Int) hax
        have hlt := (List.getElem?_eq_some_iff.1 hi).1
        have h1 := first_kid h.kidsOk hi hax
        rw [Int.toNat_natCast, hz] at h1
        exact ih (T.length - 1 - i) (by omega) i rfl hlt (by omega)
      · rw [show T.length - 1 = j by omega]
        exact hz
  have hp := h.pos
  exact key _ 0 rfl (by omega) (by have := first_le h.kidsOk (i := 0) (by omega); omega)
/-! ### Joined -/
def partsL : List (List Nd) → Nat → List Nd
  | [], _ => []
  | K :: KS, off => K.map (movN (off : Int)) ++ partsL KS (off + K.length)
def rootsL : List (List Nd) → Nat → List Int
  | [], _ => []
  | K :: KS, off => (((off + K.length : Nat) : Int) - 1) :: rootsL KS (off + K.length)
def offs : List (List Nd) → Nat → Nat
  | [], _ => 0
  | _ :: _, 0 => 0
  | K :: KS, i + 1 => K.length + offs KS i
theorem jn_eq : ∀ (KS : List (List Nd)) (out : List Nd) (r : List Int), jn KS out r = (out ++ partsL KS out.length, r ++ rootsL KS out.length)
  | [], out, r => by simp [jn, partsL, rootsL]
  | K :: KS, out, r => by
    show jn KS (out ++ K.map (movN (out.length : Int))) (r ++ [((out.length + K.length : Nat) : Int) - 1]) = _
    rw [jn_eq KS]
    simp only [List.length_append, List.length_map, partsL, rootsL, List.append_assoc, List.singleton_append]
theorem join_eq (kind : Int) (text : List UInt8) (KS : List (List Nd)) : joinL kind text KS = partsL KS 0 ++ [⟨kind, text, rootsL KS 0⟩] := by
  unfold joinL
  rw [jn_eq]
  rfl
theorem roots_len : ∀ (KS : List (List Nd)) (off : Nat), (rootsL KS off).length = KS.length
  | [], _ => rfl
  | K :: KS, off => by
    show (rootsL KS _).length + 1 = KS.length + 1
    rw [roots_len KS]
theorem roots_at : ∀ (KS : List (List Nd)) (off i : Nat) (K : List Nd), KS[i]? = some K → (rootsL KS off)[i]? = some (((off + offs KS i + K.length : Nat) : Int) - 1)
  | [], _, _, _, h => by simp at h
  | L :: KS, off, 0, K, h => by
    simp at h
    subst h
    show some _ = some _
    simp [offs]
  | L :: KS, off, i + 1, K, h => by
    have h1 := roots_at KS (off + L.length) i K (by simpa using h)
    show (rootsL KS (off + L.length))[i]? = _
    rw [h1]
    congr 3
    show off + L.length + offs KS i + K.length = off + (L.length + offs KS i) + K.length
    omega
theorem parts_at : ∀ (KS : List (List Nd)) (off i : Nat) (K : List Nd), KS[i]? = some K → ∀ (k : Nat) (x : Nd), K[k]? = some x → (partsL KS off)[offs KS i + k]? = some (movN ((off + offs KS i : Nat) : Int) x)
  | [], _, _, _, h, _, _, _ => by simp at h
  | L :: KS, off, 0, K, h, k, x, hx => by
    simp at h
    subst h
    have hk := (List.getElem?_eq_some_iff.1 hx).1
    show (L.map (movN (off : Int)) ++ partsL KS (off + L.length))[0 + k]? = _
    rw [Nat.zero_add, List.getElem?_append_left (by rw [List.length_map]; exact hk), List.getElem?_map, hx]
    rfl
  | L :: KS, off, i + 1, K, h, k, x, hx => by
    have h1 := parts_at KS (off + L.length) i K (by simpa using h) k x hx
    show (L.map (movN (off : Int)) ++ partsL KS (off + L.length))[L.length + offs KS i + k]? = _
    rw [List.getElem?_append_right (by rw [List.length_map]; omega), List.length_map, show L.length + offs KS i + k - L.length = offs KS i + k by omega, h1]
    congr 2
    show ((off + L.length + offs KS i : Nat) : Int) = ((off + (L.length + offs KS i) : Nat) : Int)
    omega
theorem join_seg {kind : Int} {text : List UInt8} {KS : List (List Nd)} {i : Nat} {K : List Nd} (h : KS[i]? = some K) : Seg (joinL kind text KS) K (offs KS i) := fun k x hx => by
  rw [join_eq]
  have h1 := parts_at KS 0 i K h k x hx
  rw [List.getElem?_append_left (List.getElem?_eq_some_iff.1 h1).1, h1, Nat.zero_add]
theorem join_root (kind : Int) (text : List UInt8) (KS : List (List Nd)) : rootK (joinL kind text KS) = rootsL KS 0 := by
  unfold rootK
  rw [join_eq]
  simp
/-- A kid of what was joined is the part. -/
theorem kid_part {kind : Int} {text : List UInt8} {KS : List (List Nd)} (hT : rightB (joinL kind text KS) = true) {i : Nat} {K : List Nd} (h : KS[i]? = some K) (hK : rightB K = true) : kidA (joinL kind text KS) (i : Int) = (K, 0) := by
  have hKR := (right_iff K).1 hK
  have hp := hKR.pos
  have hseg := join_seg (kind := kind) (text := text) h
  have hi := (List.getElem?_eq_some_iff.1 h).1
  have hr := roots_at KS 0 i K h
  have hat : (((rootsL KS 0)[(i : Int).toNat]?).getD 0).toNat = offs KS i + (K.length - 1) := by
    rw [Int.toNat_natCast, hr]
    show (((0 + offs KS i + K.length : Nat) : Int) - 1).toNat = _
    omega
  have hf : val firstC 0 (joinL kind text KS) (offs KS i + (K.length - 1)) = offs KS i := by
    rw [hseg.first hKR.kidsOk (by omega), root_first hKR]
    rfl
  have hkl : kidL (joinL kind text KS) (offs KS i + (K.length - 1)) = K := by
    unfold kidL
    rw [hf]
    apply List.ext_getElem?
    intro k
    rw [List.getElem?_map, List.getElem?_drop, List.getElem?_take]
    by_cases hk : k < K.length
    · obtain ⟨x, hx⟩ : ∃ x, K[k]? = some x := ⟨_, List.getElem?_eq_getElem hk⟩
      rw [if_pos (by omega), hseg k x hx, hx]
      show some (movN (-((offs KS i : Nat) : Int)) (movN _ x)) = some x
      rw [mov_back]
    · rw [if_neg (by omega), List.getElem?_eq_none (by omega)]
      rfl
  unfold kidA
  rw [join_root, hat, hkl, hT, hK, roots_len]
  rw [decide_eq_true (show (0 : Int) ≤ (i : Int) by omega), decide_eq_true (show (i : Int) < ((KS.length : Nat) : Int) by omega)]
  rfl
theorem kid_past {kind : Int} {text : List UInt8} {KS : List (List Nd)} {i : Nat} (h : KS.length ≤ i) : kidA (joinL kind text KS) (i : Int) = ([], 70) := by
  unfold kidA
  rw [join_root, roots_len, decide_eq_false (show ¬ (i : Int) < ((KS.length : Nat) : Int) by omega)]
  simp
theorem parts_len : ∀ (KS : List (List Nd)) (off : Nat), (partsL KS off).length = sumL (KS.map List.length)
  | [], _ => rfl
  | K :: KS, off => by
    show (K.map (movN (off : Int)) ++ partsL KS (off + K.length)).length = K.length + sumL (KS.map List.length)
    rw [List.length_append, List.length_map, parts_len KS]
theorem join_len (kind : Int) (text : List UInt8) (KS : List (List Nd)) : (joinL kind text KS).length = sumL (KS.map List.length) + 1 := by
  rw [join_eq, List.length_append, parts_len]
  rfl
theorem deep_right {T : List Nd} (h : RightT T) : deepA T = val deepC 0 T (T.length - 1) := by
  unfold deepA
  rw [(right_iff T).2 h, if_pos rfl]
/-- How deep what was joined is. -/
theorem deep_join {kind : Int} {text : List UInt8} {KS : List (List Nd)} (hT : RightT (joinL kind text KS)) (hK : ∀ K ∈ KS, RightT K) : deepA (joinL kind text KS) = (KS.map deepA).foldl max 0 + 1 := by
  rw [deep_right hT]
  have hr : (joinL kind text KS)[(joinL kind text KS).length - 1]? = some ⟨kind, text, rootsL KS 0⟩ := by
    rw [join_eq]
    simp
  rw [val_eq deepC 0 hr (hT.kid hr)]
  show (List.map _ (rootsL KS 0)).foldl max 0 + 1 = _
  congr 2
  apply List.ext_getElem?
  intro i
  rw [List.getElem?_map, List.getElem?_map]
  cases h : KS[i]? with
  | none =>
    rw [List.getElem?_eq_none (by rw [roots_len]; exact List.getElem?_eq_none_iff.1 h)]
    rfl
  | some K =>
    rw [roots_at KS 0 i K h]
    have hKR := hK K (List.mem_of_getElem? h)
    have hp := hKR.pos
    show some (val deepC 0 _ (((0 + offs KS i + K.length : Nat) : Int) - 1).toNat) = some (deepA K)
    rw [show (((0 + offs KS i + K.length : Nat) : Int) - 1).toNat = offs KS i + (K.length - 1) by omega, (join_seg h).deep hKR.kidsOk (by omega), deep_right hKR]
/-- A tree of one node. -/
theorem leaf_eq (kind : Int) (text : List UInt8) : joinL kind text [] = [⟨kind, text, []⟩] := rfl
theorem leaf_text {kind : Int} {text : List UInt8} (h : RightT [⟨kind, text, []⟩]) : text ≠ [] := fun e => by
  have h1 := (h.node 0 ⟨kind, text, []⟩ rfl).1
  subst e
  unfold formB at h1
  repeat' split at h1
  all_goals simp at h1
theorem leaf_deep {kind : Int} {text : List UInt8} (h : RightT [⟨kind, text, []⟩]) : deepA [⟨kind, text, []⟩] = 1 := by
  rw [deep_right h]
  rfl
/-- What Join tells. -/
theorem joinA_ok {kind : Int} {text : List UInt8} {KS : List (List Nd)} (h : (joinA kind text KS).2 = 0) : (joinA kind text KS).1 = joinL kind text KS ∧ RightT (joinL kind text KS) ∧ ∀ K ∈ KS, RightT K := by
  unfold joinA at h ⊢
  split at h
  · rename_i hc
    rw [if_pos hc]
    simp only [Bool.and_eq_true, List.all_eq_true] at hc
    exact ⟨rfl, (right_iff _).1 hc.2, fun K hK => (right_iff K).1 (hc.1 K hK)⟩
  · cases h
theorem joinA_no {kind : Int} {text : List UInt8} {KS : List (List Nd)} (h : (joinA kind text KS).2 ≠ 0) : joinA kind text KS = ([], 70) := by
  unfold joinA at h ⊢
  split at h
  · exact absurd rfl h
  · rename_i hc
    rw [if_neg hc]
end Go.Proofs.YtbegplfijjbpcaaDoor.No
/- Lists of nodes that own their cells, and their kids' rows as well. -/
namespace Go.Proofs.YtbegplfijjbpcaaDoor.No
open Go Go.RowKit Go.Shelf

/-- A node's cells, of it and of its kids' value. -/
def nodC (p : Nd × Value) : List Value := [.int .i64 p.1.kind, .string (bs p.1.text), p.2]
def cellsN (L : List (Nd × Value)) : List Value := L.flatMap nodC
theorem cellsN_len : ∀ L, (cellsN L).length = L.length * 3
  | [] => rfl
  | t :: L => by
    show (nodC t ++ cellsN L).length = _
    rw [List.length_append, cellsN_len L]
    simp [nodC]
    omega
theorem cellsN_snoc (L : List (Nd × Value)) (t : Nd × Value) : cellsN (L ++ [t]) = cellsN L ++ nodC t := by simp [cellsN]
theorem cellsN_app (L M : List (Nd × Value)) : cellsN (L ++ M) = cellsN L ++ cellsN M := by simp [cellsN]
theorem cellsN_get : ∀ (L : List (Nd × Value)) (j i : Nat) (t : Nd × Value), L[j]? = some t → i < 3 → (cellsN L)[j * 3 + i]? = (nodC t)[i]?
  | [], _, _, _, h, _ => by simp at h
  | x :: L, 0, i, t, h, hi => by
    obtain rfl : x = t := by simpa using h
    show (nodC x ++ cellsN L)[0 * 3 + i]? = _
    rw [List.getElem?_append_left (by simp [nodC]; omega)]
    simp
  | x :: L, j + 1, i, t, h, hi => by
    show (nodC x ++ cellsN L)[(j + 1) * 3 + i]? = _
    rw [List.getElem?_append_right (by simp [nodC]; omega)]
    have e : (j + 1) * 3 + i - (nodC x).length = j * 3 + i := by simp [nodC]; omega
    rw [e]
    exact cellsN_get L j i t (by simpa using h) hi
/-- THE SLICE VALUE v OWNS THE NODES L, and each kids' value owns its row. -/
structure NOwn (W : World) (base : Nat) (v : Value) (L : List (Nd × Value)) : Prop where
  row : W.ownsRow base 42 3 v L.length (cellsN L)
  kid : ∀ p ∈ L, IOwn W base p.2 p.1.kids
theorem NOwn.nil (W : World) (base : Nat) : NOwn W base (.slice none 0 0) [] := ⟨World.ownsRow_nil _ _ _ _, fun _ h => by cases h⟩
theorem NOwn.below {W W' : World} {base : Nat} {v : Value} {L : List (Nd × Value)} (h : NOwn W base v L) (hb : Below W.heap.size W W') : NOwn W' base v L := ⟨own_kept h.row hb, fun p hp => own_kept (h.kid p hp) hb⟩
/-- Rows of other things have other blocks. -/
theorem own_apart {W : World} {b b' : Nat} {e t : TypeId} {s r : Nat} {v u : Value} {n m : Nat} {xs ys : List Value} (h : W.ownsRow b e s v n xs) (h2 : W.ownsRow b' t r u m ys) (hne : e ≠ t) : v.ownBlock = none ∨ v.ownBlock ≠ u.ownBlock := by
  rcases h.2 with ⟨rfl, _⟩ | ⟨g, cap, cur, rfl, _, hg, _⟩
  · exact .inl rfl
  · rcases h2.2 with ⟨rfl, _⟩ | ⟨g2, cap2, cur2, rfl, _, hg2, _⟩
    · exact .inr (fun e => by cases e)
    · refine .inr (fun e => ?_)
      have e' : g = g2 := by simpa [Value.ownBlock] using e
      subst e'
      rw [hg] at hg2
      cases hg2
      exact hne rfl
/-- One list has grown: the kids' rows are kept. -/
theorem NOwn.grow {W W' : World} {base : Nat} {v u : Value} {L M : List (Nd × Value)} (h : NOwn W base v L) (hg : W.grownBy W' v.ownBlock) (hr : W'.ownsRow base 42 3 u (L ++ M).length (cellsN (L ++ M))) (hm : ∀ p ∈ M, IOwn W base p.2 p.1.kids) : NOwn W' base u (L ++ M) := by
  have key : ∀ (q : Value) (A : List Int), IOwn W base q A → IOwn W' base q A := fun q A hq => World.ownsRow.kept hq hg (own_apart hq h.row (by decide))
  refine ⟨hr, fun p hp => ?_⟩
  rcases List.mem_append.1 hp with hp | hp
  · exact key _ _ (h.kid p hp)
  · exact key _ _ (hm p hp)
/-- An owned list is a list. -/
theorem NOwn.nl {W : World} {base : Nat} {v : Value} {L : List (Nd × Value)} (h : NOwn W base v L) : NL W v (L.map (·.1)) := by
  have hlen : (L.map (·.1)).length = L.length := List.length_map ..
  have h' := h.row
  rcases h.row.2 with ⟨hv, h0⟩ | ⟨g, cap, cur, hv, hg, hh, h1, h2, h3, h4⟩
  · have : L = [] := List.length_eq_zero_iff.1 h0
    subst this
    rw [hv]
    exact NL.nil W
  · subst hv
    have hlt := (Array.getElem?_eq_some_iff.1 hh).1
    refine ⟨⟨_, cap, by rw [hlen], by rw [hlen]; exact h1, h2⟩, fun _ => ⟨g, 0, cap, by rw [hlen], hlt, fun j x hj => ?_⟩⟩
    rw [List.getElem?_map] at hj
    obtain ⟨p, hp, rfl⟩ : ∃ p, L[j]? = some p ∧ p.1 = x := by
      cases hq : L[j]? with
      | none => rw [hq] at hj; cases hj
      | some p =>
        rw [hq] at hj
        injection hj with hj
        exact ⟨p, rfl, hj⟩
    have hjl : j < L.length := (List.getElem?_eq_some_iff.1 hp).1
    have key : ∀ i, i < 3 → W.cell? ⟨g, j * 3 + i, none⟩ = (nodC p)[i]? := fun i hi => by
      rw [World.ownsRow.cellAt h' (j * 3 + i) (by omega)]
      exact cellsN_get L j i p hp hi
    rw [Nat.zero_add]
    exact ⟨key 0 (by omega), key 1 (by omega), p.2, key 2 (by omega), (h.kid p (List.mem_of_getElem? hp)).kl⟩
theorem NOwn.mono {W : World} {base base' : Nat} {v : Value} {L : List (Nd × Value)} (h : NOwn W base v L) (hb : base' ≤ base) : NOwn W base' v L := ⟨own_mono h.row hb, fun p hp => own_mono (h.kid p hp) hb⟩
end Go.Proofs.YtbegplfijjbpcaaDoor.No
/- The plain Same on nodes. -/
namespace Go.Proofs.YtbegplfijjbpcaaDoor.No
open Go Go.RowKit Go.Shelf
attribute [local go_sem] Oper.semAt_some

theorem sameN {A B : List Nd} (hl : A.length = B.length) (h : ∀ j, j < A.length → A[j]? = B[j]?) : A = B :=
  List.ext_getElem? fun j => by
    rcases Nat.lt_or_ge j A.length with h1 | h1
    · exact h j h1
    · rw [List.getElem?_eq_none h1, List.getElem?_eq_none (by omega)]

set_option maxHeartbeats 8000000 in
set_option maxRecDepth 100000 in
/-- Same(a, b). -/
theorem rsame_c (v u : Value) (A B : List Nd) (w : World) (hA : NL w v A) (hB : NL w u B) :
    Calls Tryd.prog 18 #[v, u] w fun e W' => e = .returned (.bool (decide (A = B))) ∧ Below w.heap.size w W' := by
  obtain ⟨a0, c0, rfl, hc1, hc2⟩ := hA.form
  obtain ⟨b0, d0, rfl, hd1, hd2⟩ := hB.form
  unfold maxLen at hc2 hd2
  have HCA := Lib.hid hA.cells
  have HCB := Lib.hid hB.cells
  obtain ⟨n, hn⟩ : ∃ n, n = A.length := ⟨_, rfl⟩
  obtain ⟨m, hm⟩ : ∃ n, n = B.length := ⟨_, rfl⟩
  rw [← hn] at hc1 HCA ⊢
  rw [← hm] at hd1 HCB ⊢
  have HN := Lib.hid hn
  have HM := Lib.hid hm
  have HD := Lib.hid (Below.refl w.heap.size w)
  clear hA hB hn hm
  by_cases hnm : n = m
  · subst hnm
    go_enter Tryd.func18, Tryd.ntmps18
    go_wp2
    go_loopw [5] (fun i wr => ∃ k : Nat, k ≤ n ∧ i = .int .i64 k ∧ Below w.heap.size w wr ∧ ∀ j, j < k → A[j]? = B[j]?) (fun i _ => n - (intOf i).toNat)
    case atStart => exact ⟨0, Nat.zero_le _, rfl, HD.out, fun j hj => by omega⟩
    case round =>
      obtain ⟨k, hk, rfl, hB, hall⟩ := hrel
      have HB := Lib.hid hB
      have HALL := Lib.hid hall
      by_cases hlt : k < n
      · obtain ⟨g, o, c1, hv, hg, hcs⟩ := HCA.out (by omega)
        obtain ⟨g2, o2, c2, hv2, hg2, hcs2⟩ := HCB.out (by omega)
        obtain rfl : a0 = some ⟨g, o, none⟩ := by injection hv
        obtain rfl : b0 = some ⟨g2, o2, none⟩ := by injection hv2
        obtain ⟨x, hx⟩ : ∃ x, A[k]? = some x := ⟨_, List.getElem?_eq_getElem (by rw [← HN.out]; exact hlt)⟩
        obtain ⟨y, hy⟩ : ∃ x, B[k]? = some x := ⟨_, List.getElem?_eq_getElem (by rw [← HM.out]; exact hlt)⟩
        obtain ⟨x0, x1, kx, x2, xk⟩ := (hcs k x hx).below hB hg
        obtain ⟨y0, y1, ky, y2, yk⟩ := (hcs2 k y hy).below hB hg2
        have HDR := Lib.hid hB.drew
        have HON := Lib.hid (one_c x y kx ky wr.drew (xk.below ((Below.refl _ _).drew)) (yk.below ((Below.refl _ _).drew)))
        have HFIN : Hid (∀ W, Below wr.drew.heap.size wr.drew W → Below w.heap.size w W) := Lib.hid (fun W hW => hB.drew.trans (hW.mono hB.size))
        have HCX : Hid (∀ W, Below wr.drew.heap.size wr.drew W → (W.cell? ⟨g, o + k * 3, none⟩ = some (.int .i64 x.kind) ∧ W.cell? ⟨g, o + k * 3 + 1, none⟩ = some (.string (bs x.text)) ∧ W.cell? ⟨g, o + k * 3 + 2, none⟩ = some kx) ∧ W.cell? ⟨g2, o2 + k * 3, none⟩ = some (.int .i64 y.kind) ∧ W.cell? ⟨g2, o2 + k * 3 + 1, none⟩ = some (.string (bs y.text)) ∧ W.cell? ⟨g2, o2 + k * 3 + 2, none⟩ = some ky) := Lib.hid (fun W hW => by
          have q : ∀ (b o : Nat) (z : Value), b < wr.heap.size → wr.cell? ⟨b, o, none⟩ = some z → W.cell? ⟨b, o, none⟩ = some z := fun b o z h1 h2 => (hW.cell (p := ⟨b, o, none⟩) h1).trans h2
          have l1 := Nat.lt_of_lt_of_le hg hB.size
          have l2 := Nat.lt_of_lt_of_le hg2 hB.size
          exact ⟨⟨q _ _ _ l1 x0, q _ _ _ l1 x1, q _ _ _ l1 x2⟩, q _ _ _ l2 y0, q _ _ _ l2 y1, q _ _ _ l2 y2⟩)
        obtain ⟨dd, hdd⟩ : ∃ d, d = decide (x = y) := ⟨_, rfl⟩
        rw [← hdd] at HON
        have HXY : Hid ((dd = true → A[k]? = B[k]?) ∧ (dd = false → A ≠ B)) := Lib.hid ⟨fun e => by
          rw [hx, hy, of_decide_eq_true (hdd.symm.trans e)], fun e e2 => by
          have := of_decide_eq_false (hdd.symm.trans e)
          rw [e2, hy] at hx
          injection hx with hx
          exact this hx.symm⟩
        obtain ⟨xa, xc, rfl, _⟩ := xk.form
        obtain ⟨ya, yc, rfl, _⟩ := yk.form
        obtain ⟨p1, hp1⟩ : ∃ p, p = x.kind := ⟨_, rfl⟩
        obtain ⟨p2, hp2⟩ : ∃ p, p = bs x.text := ⟨_, rfl⟩
        obtain ⟨p3, hp3⟩ : ∃ p, p = x.kids.length := ⟨_, rfl⟩
        obtain ⟨q1, hq1⟩ : ∃ p, p = y.kind := ⟨_, rfl⟩
        obtain ⟨q2, hq2⟩ : ∃ p, p = bs y.text := ⟨_, rfl⟩
        obtain ⟨q3, hq3⟩ : ∃ p, p = y.kids.length := ⟨_, rfl⟩
        rw [← hp1, ← hp2, ← hp3, ← hq1, ← hq2, ← hq3] at HON HCX
        obtain ⟨⟨z0, z1, z2⟩, z3, z4, z5⟩ := HCX.out _ (Below.refl _ _)
        clear hB hcs hcs2 hv hv2 hg hg2 hx hy hall x0 x1 x2 y0 y1 y2 xk yk hdd hp1 hp2 hp3 hq1 hq2 hq3
        go_wp2_with fail
        go_region_held_law (fun w' => (w'.cell? ⟨g, o + k * 3, none⟩ = some (.int .i64 p1) ∧ w'.cell? ⟨g, o + k * 3 + 1, none⟩ = some (.string p2) ∧ w'.cell? ⟨g, o + k * 3 + 2, none⟩ = some (.slice xa p3 xc)) ∧ w'.cell? ⟨g2, o2 + k * 3, none⟩ = some (.int .i64 q1) ∧ w'.cell? ⟨g2, o2 + k * 3 + 1, none⟩ = some (.string q2) ∧ w'.cell? ⟨g2, o2 + k * 3 + 2, none⟩ = some (.slice ya q3 yc)) (first | exact HX7.out | exact ⟨⟨z0, z1, z2⟩, z3, z4, z5⟩ | go_keep)
          ((first | (go_at_call 38; refine HON.out.mono ?_; rintro e w7 ⟨rfl, hb7⟩; have HB7 := Lib.hid (HFIN.out w7 hb7); have HX7 := Lib.hid (HCX.out w7 hb7); clear hb7)))
        all_goals
          cases dd with
          | true =>
            go_wp2
            go_roundw
            case rel =>
              refine ⟨k + 1, by omega, by go_num, HB7.out, fun j hj => ?_⟩
              rcases Nat.lt_or_ge j k with h1 | h1
              · exact HALL.out j h1
              · obtain rfl : j = k := by omega
                exact HXY.out.1 rfl
            case measure => simp [intOf]; omega
          | false =>
            have HNE := Lib.hid (HXY.out.2 rfl)
            go_wp2
            go_ret
            exact ⟨by rw [decide_eq_false HNE.out]; rfl, HB7.out⟩
      · obtain rfl : k = n := by omega
        have HE : Hid (A = B) := Lib.hid (sameN (by rw [← HN.out, ← HM.out]) (fun j hj => hall j (by rw [HN.out]; exact hj)))
        clear hB hall
        go_wp2
        go_ret
        exact ⟨by rw [decide_eq_true HE.out]; rfl, HB.out⟩
  · have HNE : Hid (A ≠ B) := Lib.hid (fun e => hnm (by rw [HN.out, HM.out, e]))
    have t1 : ((n : Int) != (m : Int)) = true := by simp; omega
    go_enter Tryd.func18, Tryd.ntmps18
    go_wp2
    go_ret
    exact ⟨by rw [decide_eq_false HNE.out]; rfl, HD.out⟩
end Go.Proofs.YtbegplfijjbpcaaDoor.No
