/- The token that comes next. -/
import Derived.Test.YtdgffpcbpilkcaaGreatDoorLxSign
import Derived.Test.YtdgffpcbpilkcaaGreatDoorLxQuoted
import Derived.Test.YtdgffpcbpilkcaaGreatDoorLxNumber
namespace Go.Proofs.YtdgffpcbpilkcaaGreatDoor
open Go Go.RowKit Go.Shelf
attribute [local go_sem] Oper.semAt_some

/-- The rules, in order: their functions, what these are bound to, what they tell. -/
def ruleF : Nat → Nat
  | 0 => 90
  | 1 => 91
  | 2 => 92
  | 3 => 93
  | 4 => 94
  | 5 => 95
  | _ => 96
def ruleV (s : ByteArray) (B : Nat) (i : Nat) : Value := if i = 5 then .pointer (some ⟨B, 0, none⟩) else .agg #[.string s]
def ruleT (T : List UInt8) : Nat → Tk
  | 0 => rB T
  | 1 => rR T
  | 2 => rQ T
  | 3 => rN T
  | 4 => rW T
  | 5 => rS T
  | _ => rO st T
theorem rules_tk1 (T : List UInt8) : firstN (ruleT T) 7 0 = tk1 st T := rfl
theorem kinds_ok (T : List UInt8) (i : Nat) : ruleT T i = noTk ∨ (ruleT T i).kind ≠ 0 := by
  have h : ∀ {c : Prop} [Decidable c] {x : Tk}, x.kind ≠ 0 → (if c then noTk else x) = noTk ∨ (if c then noTk else x).kind ≠ 0 := fun {c} _ {x} hx => by
    by_cases hc : c
    · rw [if_pos hc]; exact .inl rfl
    · rw [if_neg hc]; exact .inr hx
  unfold ruleT
  split
  · exact h (by simp)
  · unfold rR
    split
    · exact .inr (by simp)
    · exact .inl rfl
  · unfold rQ
    split
    · cases qs T.tail <;> exact .inr (by simp [rqOf])
    · exact .inl rfl
  · refine h ?_
    split <;> simp
  · refine h ?_
    split <;> simp
  · unfold rS
    split
    · exact .inl rfl
    · rename_i hk; exact .inr hk
  · exact .inr (by simp [rO])
theorem rules_enter (i : Nat) : ∀ args W, (callFunc (ruleF i) args).run Tryz.prog W = .ok (.enter (ruleF i) args) W := by
  unfold ruleF
  split
  · exact enters_of Tryz.func90 (by kernel_rfl) rfl
  · exact enters_of Tryz.func91 (by kernel_rfl) rfl
  · exact enters_of Tryz.func92 (by kernel_rfl) rfl
  · exact enters_of Tryz.func93 (by kernel_rfl) rfl
  · exact enters_of Tryz.func94 (by kernel_rfl) rfl
  · exact enters_of Tryz.func95 (by kernel_rfl) rfl
  · exact enters_of Tryz.func96 (by kernel_rfl) rfl
theorem rules_c (T : List UInt8) (hT : T.length ≤ 10000) (h0 : T ≠ []) (B m : Nat) (i : Nat) (hi : i < 7) (W : World) (hG : LG W) (hL : Lexer W B m T) :
    Calls Tryz.prog (ruleF i) #[ruleV (bs T) B i] W fun e W' => e = .returned (tokV (ruleT T i)) ∧ Below W.heap.size W W' := by
  rcases (by omega : i = 0 ∨ i = 1 ∨ i = 2 ∨ i = 3 ∨ i = 4 ∨ i = 5 ∨ i = 6) with rfl | rfl | rfl | rfl | rfl | rfl | rfl
  · exact blank_c T hT W
  · exact remark_c T hT W hG.gl
  · exact quoted_c T hT W
  · exact number_c T hT W hG
  · exact name_c T hT W
  · exact sign_c T hT B m W hG hL
  · exact other_c T hT h0 W hG

/-- The rules, as the function values of a slice. -/
abbrev ruleCs (s : ByteArray) (B : Nat) : Array Value := #[.func (.func 90) #[.agg #[.string s]] #[], .func (.func 91) #[.agg #[.string s]] #[], .func (.func 92) #[.agg #[.string s]] #[], .func (.func 93) #[.agg #[.string s]] #[], .func (.func 94) #[.agg #[.string s]] #[], .func (.func 95) #[.pointer (some ⟨B, 0, none⟩)] #[], .func (.func 96) #[.agg #[.string s]] #[]]
theorem rules_at {W : World} {g : Nat} {t : TypeId} {s : ByteArray} {B : Nat} (h : Row W g t (ruleCs s B)) : FnsAt W g 7 ruleF (ruleV s B) := fun i hi => by
  rw [h.cell]
  rcases (by omega : i = 0 ∨ i = 1 ∨ i = 2 ∨ i = 3 ∨ i = 4 ∨ i = 5 ∨ i = 6) with rfl | rfl | rfl | rfl | rfl | rfl | rfl <;> rfl

set_option maxRecDepth 100000 in
set_option maxHeartbeats 4000000 in
/-- firstOf the rules. -/
theorem firstOf_rules (T : List UInt8) (hT : T.length ≤ 10000) (h0 : T ≠ []) (B m g : Nat) (w : World) (hG : LG w) (hL : Lexer w B m T) (hR : Row w g 149 (ruleCs (bs T) B)) :
    Calls Tryz.prog 89 #[.slice (some ⟨g, 0, none⟩) 7 7] w fun e W' => e = .returned (tokV (tk1 st T)) ∧ Below w.heap.size w W' := by
  have := firstOf_c 7 g (by omega) ruleF (ruleV (bs T) B) (ruleT T) w hR.lt (rules_at hR) (fun i _ => kinds_ok T i) (fun i _ => rules_enter i) (fun i hi W hW => rules_c T hT h0 B m i hi W (hG.below hW) (hL.below hW))
  rw [rules_tk1] at this
  exact this


/-- skip(n), of a lexer's rest. -/
theorem skip_c (B m n : Nat) (s R : ByteArray) (hn : n ≤ s.size) (hR : s.extract n s.size = R) (w : World) (hL : Row w B 148 #[.string s, .map (some m)]) :
    Calls Tryz.prog 97 #[.pointer (some ⟨B, 0, none⟩), .int .i64 (n : Int)] w fun e W' => e = .returned (.tuple #[]) ∧ W' = w.setCell ⟨B, 0, none⟩ (.string R) := by
  have c0 := hL.cell 0
  simp at c0
  have f0 := hL.frozen 0
  clear hL
  go_enter Tryz.func97, Tryz.ntmps97
  go_wp2
  go_end0
  exact ⟨rfl, rfl⟩

theorem Lexer.ne {W : World} {B m : Nat} {T : List UInt8} (h : Lexer W B m T) : m ≠ B := fun e => by
  have h1 := h.row
  have h2 := h.kinds
  subst e
  have h3 := h2.symm.trans h1
  cases h3
/-- What lies when next() ends. -/
theorem next_end {w W2 w5 : World} {B m n : Nat} {T : List UInt8} {R : ByteArray} (hR : R = bs (T.drop n)) (hB : B < w.heap.size) (hm : m < w.heap.size) (hl : Lexer W2 B m T) (hb : Below w.heap.size w W2)
    (h5 : Below (W2.setCell ⟨B, 0, none⟩ (.string R)).drew.heap.size (W2.setCell ⟨B, 0, none⟩ (.string R)).drew w5) (x y z : Value) :
    Lexer (((w5.setCell ⟨w.heap.size, 0, none⟩ x).setCell ⟨w.heap.size, 1, none⟩ y).setCell ⟨w.heap.size, 2, none⟩ z) B m (T.drop n) ∧
      (∀ k, k < w.heap.size → k ≠ B → (((w5.setCell ⟨w.heap.size, 0, none⟩ x).setCell ⟨w.heap.size, 1, none⟩ y).setCell ⟨w.heap.size, 2, none⟩ z).heap[k]? = w.heap[k]?) ∧
      w.heap.size ≤ (((w5.setCell ⟨w.heap.size, 0, none⟩ x).setCell ⟨w.heap.size, 1, none⟩ y).setCell ⟨w.heap.size, 2, none⟩ z).heap.size ∧
      Below B w (((w5.setCell ⟨w.heap.size, 0, none⟩ x).setCell ⟨w.heap.size, 1, none⟩ y).setCell ⟨w.heap.size, 2, none⟩ z) := by
  have hs4 : (W2.setCell ⟨B, 0, none⟩ (.string R)).drew.heap.size = W2.heap.size := World.size_setCell _ _ _
  have hbs := hb.size
  rw [hs4] at h5
  have hk : ∀ k, k < w.heap.size → (((w5.setCell ⟨w.heap.size, 0, none⟩ x).setCell ⟨w.heap.size, 1, none⟩ y).setCell ⟨w.heap.size, 2, none⟩ z).heap[k]? = (W2.setCell ⟨B, 0, none⟩ (.string R)).drew.heap[k]? := fun k hk =>
    (Below.heap_setCell _ _ _ k (by dsimp only; omega)).trans ((Below.heap_setCell _ _ _ k (by dsimp only; omega)).trans ((Below.heap_setCell _ _ _ k (by dsimp only; omega)).trans (h5.block k (by omega))))
  have hrow : Row (W2.setCell ⟨B, 0, none⟩ (.string R)).drew B 148 #[.string R, .map (some m)] := (hl.row.set 0 (.string R)).drew
  have hne := hl.ne
  refine ⟨⟨?_, ?_, ?_⟩, fun k h1 h2 => ?_, ?_, ?_⟩
  · rw [← hR]
    exact (hk B hB).trans hrow
  · refine (hk m hm).trans ?_
    exact (Below.heap_setCell W2 _ _ m (by dsimp only; exact hne)).trans hl.kinds
  · rw [World.size_setCell, World.size_setCell, World.size_setCell]
    have := h5.size
    rw [hs4] at this
    omega
  · refine (hk k h1).trans ?_
    exact (Below.heap_setCell W2 _ _ k (by dsimp only; exact h2)).trans (hb.block k h1)
  · rw [World.size_setCell, World.size_setCell, World.size_setCell]
    have := h5.size
    rw [hs4] at this
    omega
  · exact below_set3 ((((hb.mono (Nat.le_of_lt hB)).setCell (p := ⟨B, 0, none⟩) (Nat.le_refl _) _).drew).trans (h5.mono (by omega))) _ _ _ (by dsimp only; omega) (by dsimp only; omega) (by dsimp only; omega) _ _ _
end Go.Proofs.YtdgffpcbpilkcaaGreatDoor
