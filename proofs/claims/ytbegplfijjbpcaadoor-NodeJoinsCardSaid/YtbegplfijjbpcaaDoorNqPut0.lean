/- The program: copies of nodes are put behind those that are there. -/
import Derived.Test.YtbegplfijjbpcaaDoorNqBuild
import Derived.Test.YtbegplfijjbpcaaDoorNqAll
import Derived.Test.YtbegplfijjbpcaaDoorNqA
import Derived.Test.YtbegplfijjbpcaaDoorGrCopy
import Derived.Test.YtbegplfijjbpcaaDoorShelf
namespace Go.Proofs.YtbegplfijjbpcaaDoor.No
open Go Go.RowKit Go.Shelf
attribute [local go_sem] Oper.semAt_some

theorem nclone_c (s : ByteArray) (w : World) (hs : s.size ≤ 10000000000) :
    Calls Tryd.prog 62 #[.string s] w fun e W' => e = .returned (.string s) ∧ Below w.heap.size w W' := by
  have H := Lib.hid (Tryd.stringslite_Clone s w (by omega))
  go_enter Tryd.func62, Tryd.ntmps62
  go_wp2_with (go_at_call 68; refine H.out.mono ?_; rintro e w1 ⟨rfl, hb1⟩; have HB := Lib.hid hb1; clear hb1)
  go_ret
  exact ⟨rfl, HB.out⟩
/-- All blocks but three are as they were. -/
structure Keep3 (bb q r : Nat) (W W' : World) : Prop where
  os : W'.os = W.os
  tape : W'.tape = W.tape
  output : W'.output = W.output
  size : W.heap.size ≤ W'.heap.size
  block : ∀ k, k < W.heap.size → k ≠ bb → k ≠ q → k ≠ r → W'.heap[k]? = W.heap[k]?
theorem Keep3.refl (bb q r : Nat) (W : World) : Keep3 bb q r W W := ⟨rfl, rfl, rfl, Nat.le_refl _, fun _ _ _ _ _ => rfl⟩
theorem Keep3.trans {bb q r : Nat} {A B C : World} (h : Keep3 bb q r A B) (k : Keep3 bb q r B C) : Keep3 bb q r A C := ⟨k.os.trans h.os, k.tape.trans h.tape, k.output.trans h.output, Nat.le_trans h.size k.size, fun i hi h1 h2 h3 => (k.block i (Nat.lt_of_lt_of_le hi h.size) h1 h2 h3).trans (h.block i hi h1 h2 h3)⟩
theorem Keep3.of_below {bb q r : Nat} {A B : World} (h : Below A.heap.size A B) : Keep3 bb q r A B := ⟨h.os, h.tape, h.output, h.size, fun k hk _ _ _ => h.block k hk⟩
theorem Keep3.of_grown {bb q r g : Nat} {A B : World} (h : A.grownBy B (some g)) (hg : g = bb ∨ g = q ∨ g = r) : Keep3 bb q r A B := ⟨h.os, h.tape, h.output, h.size, fun k hk h1 h2 h3 => h.block k hk (fun e => by injection e with e; subst e; rcases hg with rfl | rfl | rfl <;> contradiction)⟩
theorem Keep3.below {bb q r base : Nat} {A B w0 : World} (h : Keep3 bb q r A B) (h0 : Below base w0 A) (hs : base ≤ A.heap.size) (h1 : base ≤ bb) (h2 : base ≤ q) (h3 : base ≤ r) : Below base w0 B :=
  ⟨h.os.trans h0.os, h.tape.trans h0.tape, h.output.trans h0.output, Nat.le_trans h0.size h.size, fun k hk => (h.block k (by omega) (by omega) (by omega) (by omega)).trans (h0.block k hk)⟩
theorem infoIs : (Tryd.prog.info? 3).map (·.size) = some 1 := by kernel_rfl
/-- places(n), whatever n. -/
theorem places_any (W : World) (bb r off left m : Nat) (nv : Value) (hrow : Row W bb 88 #[nv, .slice (some ⟨r, off, none⟩) left left]) (hm : m ≤ left) (hl : left ≤ 1000) :
    Calls Tryd.prog 61 #[.pointer (some ⟨bb, 0, none⟩), .int .i64 (m : Int)] W fun e W' =>
      ∃ ka off', e = .returned (.slice ka m m) ∧ (m = 0 → ka = none) ∧ (0 < m → ka = some ⟨r, off, none⟩) ∧ (m < left → off' = off + m) ∧ Row W' bb 88 #[nv, .slice (some ⟨r, off', none⟩) (left - m) (left - m)] ∧ W.grownBy W' (some bb) := by
  refine (places_c W bb r off left m nv hrow hm hl).mono ?_
  rintro e W' (⟨rfl, rfl, rfl⟩ | ⟨h0, rfl, off', h1, rfl⟩)
  · exact ⟨none, off, rfl, fun _ => rfl, fun h => by omega, fun _ => rfl, hrow, grown_refl _ _⟩
  · exact ⟨_, off', rfl, fun h => by omega, fun _ => rfl, h1, hrow.set 1 _, grown_set _ _ _ _⟩
/-- copy(kids, x.Kids). -/
theorem copy_any (W : World) (r uu K kc : Nat) (ka kb : Option Addr) (cs : Array Value) (A : List Int) (hA : A.length = K) (h0 : K = 0 → ka = none) (h1 : 0 < K → ka = some ⟨r, uu, none⟩) (hr : Row W r 3 cs) (hfit : 0 < K → uu + K ≤ cs.size) (hk : KL W (.slice kb K kc) A) :
    ∃ W', (Builtin.copy_ #[40, 40] 3 #[.slice ka K K, .slice kb K kc]).run Tryd.prog W = .ok (.int .i64 (K : Int)) W' ∧ Row W' r 3 ((cs.toList.take uu ++ nums A ++ cs.toList.drop (uu + K)).toArray) ∧ W.grownBy W' (some r) := by
  by_cases hz : K = 0
  · obtain rfl := h0 hz
    subst hz
    obtain rfl : A = [] := List.length_eq_zero_iff.1 hA
    refine ⟨W, ?_, ?_, grown_refl _ _⟩
    · cases kb <;> simp [Builtin.copy_, go_sem]
    · have : (cs.toList.take uu ++ nums [] ++ cs.toList.drop (uu + 0)).toArray = cs := by simp [nums]
      rw [this]
      exact hr
  · obtain rfl := h1 (by omega)
    obtain ⟨gk, ok, ck, hv, hgk, hck⟩ := hk.cells (by omega)
    rw [hA] at hv
    obtain rfl : kb = some ⟨gk, ok, none⟩ := by injection hv
    have hln : (nums A).length = K * 1 := by rw [nums_len, hA, Nat.mul_one]
    have hrun := run_copy_rowN (P := Tryd.prog) W 40 40 3 3 r uu K K ⟨gk, ok, none⟩ K kc cs 3 1 K (nums A) Tryd.underlying40 infoIs hr (Nat.min_self K) hln (fun j v hj => by
      have hjl : j < A.length := by have := (List.getElem?_eq_some_iff.1 hj).1; rwa [nums_len] at this
      obtain ⟨x, hx⟩ : ∃ x, A[j]? = some x := ⟨_, List.getElem?_eq_getElem hjl⟩
      rw [nums_at hx] at hj
      cases hj
      rw [addr_add]
      exact hck j x hx) (by have := hfit (by omega); rw [hln]; omega) (fun v hv => by
      obtain ⟨x, _, rfl⟩ := List.mem_map.1 hv
      rfl)
    rw [hln, Nat.mul_one] at hrun
    refine ⟨_, hrun, setRow_heap W r cs _ _ (0, 0) hr, ?_⟩
    exact ⟨rfl, rfl, rfl, by simp [World.setRow], fun k _ hne => setRow_other W r k _ (fun e => hne (by rw [e]))⟩
end Go.Proofs.YtbegplfijjbpcaaDoor.No
