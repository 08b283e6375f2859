/- The pieces are parted at a place. -/
import Derived.Test.YtajbcaggpfopnaaDoorIter
import Derived.Test.YtajbcaggpfopnaaDoorDet
import Derived.Lib.Hide
import Derived.BigRegion
import Derived.Outline
namespace Go.Proofs.YtajbcaggpfopnaaDoor
open Go Go.RowKit Go.Shelf
attribute [local go_sem] Oper.semAt_some

/-- WHERE a place parts the pieces: k lie ahead of it whole; it is within piece k (wi = 1), or at its beginning (wi = 0). -/
def Parts (S : Nat → ByteArray) (at_ k wi : Nat) (l r : ByteArray) : Prop :=
  (wi = 0 ∧ offs S k = at_ ∧ l = ⟨#[]⟩ ∧ r = ⟨#[]⟩) ∨
  (wi = 1 ∧ offs S k < at_ ∧ at_ < offs S k + (S k).size ∧ l = (S k).extract 0 (at_ - offs S k) ∧ r = (S k).extract (at_ - offs S k) (S k).size)

/-- WHAT THE CALL's OWN CELLS HOLD. -/
def SplitI (at_ cnt wi : Nat) (l r : ByteArray) (s : Nat) (W : World) : Prop :=
  Boxed W s 3 (.int .i64 (at_ : Int)) ∧ Boxed W (s + 1) 9 (.string l) ∧ Boxed W (s + 1 + 1) 9 (.string r) ∧ Boxed W (s + 1 + 1 + 1) 3 (.int .i64 (cnt : Int)) ∧ Boxed W (s + 1 + 1 + 1 + 1) 3 (.int .i64 (wi : Int))
theorem splitI_own (at_ cnt wi : Nat) (l r : ByteArray) (s : Nat) : Own (fun (_ : Unit) W => SplitI at_ cnt wi l r s W) := by
  rintro b X Y row ⟨h1, h2, h3, h4, h5⟩ hg hr
  exact ⟨boxed_own _ 3 (fun (_ : Unit) => Value.int .i64 (at_ : Int)) () X Y row h1 hg hr, boxed_own _ 9 (fun (_ : Unit) => Value.string l) () X Y row h2 hg hr, boxed_own _ 9 (fun (_ : Unit) => Value.string r) () X Y row h3 hg hr,
    boxed_own _ 3 (fun (_ : Unit) => Value.int .i64 (cnt : Int)) () X Y row h4 hg hr, boxed_own _ 3 (fun (_ : Unit) => Value.int .i64 (wi : Int)) () X Y row h5 hg hr⟩

/-- A store of what a box holds already turns nothing. -/
theorem setCell_self {W : World} {B : Nat} {t : TypeId} {v : Value} (h : Boxed W B t v) : W.setCell ⟨B, 0, none⟩ v = W := by
  have hs := Boxed.set v h
  have e : (W.setCell ⟨B, 0, none⟩ v).heap = W.heap := by
    apply Array.ext_getElem?
    intro k
    by_cases hk : k = B
    · subst hk; exact hs.trans (show W.heap[k]? = _ from h).symm
    · exact Below.heap_setCell W _ _ _ hk
  show ({ W with heap := (W.setCell ⟨B, 0, none⟩ v).heap } : World) = W
  rw [e]

/-- list[:k:k] -/
theorem slice_head {n₀ : Nat} {W : World} {v : Value} {S : Nat → ByteArray} {len k : Nat} (hv : Holds n₀ W v S len) (hk : k ≤ len) (hlen : len ≤ 1000000) :
    ∃ hd, (∀ W' : World, (Instr.slice 48 v none (some (.int .i64 (k : Int))) (some (.int .i64 (k : Int)))).run Tryd.prog W' = .ok hd W') ∧ Holds n₀ W hd S k := by
  rcases hv with ⟨rfl, rfl⟩ | ⟨b, off, cap, rfl, h1, h2, hb, hc⟩
  · obtain rfl : k = 0 := by omega
    exact ⟨.slice none 0 0, fun W' => by simp [go_sem, Tryd.underlying48], .inl ⟨rfl, rfl⟩⟩
  · have hkc : k ≤ cap := by omega
    refine ⟨_, fun W' => by simp [go_sem, Tryd.underlying48, hkc]; rfl, ?_⟩
    exact .inr ⟨b, off, k, rfl, Nat.le_refl _, by omega, hb, fun j hj => hc j (by omega)⟩
/-- list[k:len:len] -/
theorem slice_tail {n₀ : Nat} {W : World} {v : Value} {S : Nat → ByteArray} {len k : Nat} (hv : Holds n₀ W v S len) (hk : k ≤ len) (hlen : len ≤ 1000000) (z : Int) (hz : z = (k : Int)) :
    ∃ tl, (∀ W' : World, (Instr.slice 48 v (some (.int .i64 z)) (some (.int .i64 (len : Int))) (some (.int .i64 (len : Int)))).run Tryd.prog W' = .ok tl W') ∧ Holds n₀ W tl (fun j => S (k + j)) (len - k) := by
  subst hz
  rcases hv with ⟨rfl, rfl⟩ | ⟨b, off, cap, rfl, h1, h2, hb, hc⟩
  · obtain rfl : k = 0 := by omega
    exact ⟨.slice none 0 0, fun W' => by simp [go_sem, Tryd.underlying48], .inl ⟨rfl, rfl⟩⟩
  · refine ⟨_, fun W' => by simp [go_sem, Tryd.underlying48, h1, hk]; rfl, ?_⟩
    by_cases hkl : len = k
    · rw [if_pos hkl]
      exact .inr ⟨b, off, len - k, rfl, Nat.le_refl _, by omega, hb, fun j hj => by omega⟩
    · rw [if_neg hkl]
      exact .inr ⟨b, off + k, len - k, rfl, Nat.le_refl _, by omega, hb, fun j hj => by
        have := hc (k + j) (by omega)
        rw [← Nat.add_assoc] at this
        exact this⟩

set_option maxRecDepth 100000 in
set_option maxHeartbeats 4000000 in
/-- p.split(at): the list's head and tail are cut out of it; what the place parts comes in two strings; what lay stays. -/
theorem split_in (n : Nat) (hn : 3 ≤ n) (B : Nat) (v : Value) (S : Nat → ByteArray) (len : Nat) (hlen : len ≤ 1000000) (hoff : offs S len ≤ 1000000)
    (w : World) (hB : B < w.heap.size) (cB : w.cell? ⟨B, 0, none⟩ = some v) (hv : Holds w.heap.size w v S len) (at_ : Nat) (hat : at_ ≤ offs S len) :
    CallsIn Fence.wide n Tryd.prog 34 #[.pointer (some ⟨B, 0, none⟩), .int .i64 (at_ : Int)] w fun e W' => ∃ (k wi : Nat) (l r : ByteArray) (hd tl : Value), e = .returned (.tuple #[hd, .string l, .string r, tl]) ∧
      k + wi ≤ len ∧ Parts S at_ k wi l r ∧ Holds w.heap.size w hd S k ∧ Holds w.heap.size w tl (fun j => S (k + wi + j)) (len - (k + wi)) ∧ Below w.heap.size w W' := by
  have h1 : 1 ≤ n := by omega
  have hro : Fence.wide.round = none := rfl
  refine callsIn_of_wp_marks Tryd.func34 rfl trivial ?_ hro
  simp only [Tryd.ntmps34, List.size_toArray, List.length_cons, List.length_nil, Nat.reduceAdd, Nat.reduceSub, Array.replicate_succ, Array.replicate_zero, List.push_toArray, List.append_toArray, List.nil_append, List.cons_append]
  gi_wp2
  refine wpIn_scope_straight ?_
  gi_wp2
  refine wpIn_label ?_
  gi_wp2_with (refine ⟨trivial, ?_⟩; gi_at_call 33; refine (each_in Fence.wide (n - 1) trivial hro _ _).mono ?_; rintro e w' ⟨rfl, rfl⟩)
  have hB0 : Below w.heap.size w ((((((w.alloc (.cells #[.int .i64 (at_ : Int)] 3)).alloc (.cells #[.string ⟨#[]⟩] 9)).alloc (.cells #[.string ⟨#[]⟩] 9)).alloc (.cells #[.int .i64 0] 3)).alloc (.cells #[.int .i64 0] 3)).alloc (.cells #[.pointer (some ⟨B, 0, none⟩)] 61)) := (((((((Below.refl _ w).alloc (Nat.le_refl _) _).alloc (by simp) _).alloc (by simp; omega) _).alloc (by simp; omega) _).alloc (by simp; omega) _).alloc (by simp; omega) _)
  have bA := ((((((Boxed.new w 3 (.int .i64 (at_ : Int))).alloc (.cells #[.string ⟨#[]⟩] 9)).alloc (.cells #[.string ⟨#[]⟩] 9)).alloc (.cells #[.int .i64 0] 3)).alloc (.cells #[.int .i64 0] 3)).alloc (.cells #[.pointer (some ⟨B, 0, none⟩)] 61))
  have bL := (((((Boxed.new (w.alloc (.cells #[.int .i64 (at_ : Int)] 3)) 9 (.string ⟨#[]⟩)).alloc (.cells #[.string ⟨#[]⟩] 9)).alloc (.cells #[.int .i64 0] 3)).alloc (.cells #[.int .i64 0] 3)).alloc (.cells #[.pointer (some ⟨B, 0, none⟩)] 61))
  have bR := ((((Boxed.new ((w.alloc (.cells #[.int .i64 (at_ : Int)] 3)).alloc (.cells #[.string ⟨#[]⟩] 9)) 9 (.string ⟨#[]⟩)).alloc (.cells #[.int .i64 0] 3)).alloc (.cells #[.int .i64 0] 3)).alloc (.cells #[.pointer (some ⟨B, 0, none⟩)] 61))
  have bN := (((Boxed.new (((w.alloc (.cells #[.int .i64 (at_ : Int)] 3)).alloc (.cells #[.string ⟨#[]⟩] 9)).alloc (.cells #[.string ⟨#[]⟩] 9)) 3 (.int .i64 0)).alloc (.cells #[.int .i64 0] 3)).alloc (.cells #[.pointer (some ⟨B, 0, none⟩)] 61))
  have bI := ((Boxed.new ((((w.alloc (.cells #[.int .i64 (at_ : Int)] 3)).alloc (.cells #[.string ⟨#[]⟩] 9)).alloc (.cells #[.string ⟨#[]⟩] 9)).alloc (.cells #[.int .i64 0] 3)) 3 (.int .i64 0)).alloc (.cells #[.pointer (some ⟨B, 0, none⟩)] 61))
  have bP := (Boxed.new (((((w.alloc (.cells #[.int .i64 (at_ : Int)] 3)).alloc (.cells #[.string ⟨#[]⟩] 9)).alloc (.cells #[.string ⟨#[]⟩] 9)).alloc (.cells #[.int .i64 0] 3)).alloc (.cells #[.int .i64 0] 3)) 61 (.pointer (some ⟨B, 0, none⟩)))
  have hsz : (((((((w.alloc (.cells #[.int .i64 (at_ : Int)] 3)).alloc (.cells #[.string ⟨#[]⟩] 9)).alloc (.cells #[.string ⟨#[]⟩] 9)).alloc (.cells #[.int .i64 0] 3)).alloc (.cells #[.int .i64 0] 3)).alloc (.cells #[.pointer (some ⟨B, 0, none⟩)] 61))).heap.size = w.heap.size + 6 := by simp
  simp only [World.size_alloc] at bL bR bN bI bP
  obtain ⟨W0, hW0⟩ : ∃ W0, ((((((w.alloc (.cells #[.int .i64 (at_ : Int)] 3)).alloc (.cells #[.string ⟨#[]⟩] 9)).alloc (.cells #[.string ⟨#[]⟩] 9)).alloc (.cells #[.int .i64 0] 3)).alloc (.cells #[.int .i64 0] 3)).alloc (.cells #[.pointer (some ⟨B, 0, none⟩)] 61)) = W0 := ⟨_, rfl⟩
  rw [hW0] at bA bL bR bN bI bP hB0 hsz ⊢
  clear hW0
  refine wpIn_rangeFunc_ownH hro h1 (gf := 38) (lb := #[.pointer (some ⟨w.heap.size + 1 + 1 + 1 + 1 + 1, 0, none⟩)]) rfl trivial (enters_of Tryd.func38 (by kernel_rfl) rfl)
    (each_stops Fence.wide (n - 1) trivial hro (by omega) (w.heap.size + 1 + 1 + 1 + 1 + 1) w.heap.size W0.heap.size B v S len hlen hoff W0 (by omega) (Nat.le_refl _) (by omega) bP.cell hB ((hB0.cell (p := ⟨B, 0, none⟩) hB).trans cB) (hv.below hB0 (Nat.le_refl _))) keeps_t (keeps_b (by omega)) (Below.refl _ _) (fun _ => rfl)
    (fun pre W => (SplitI at_ pre.length 0 ⟨#[]⟩ ⟨#[]⟩ w.heap.size W ∧ (InOrder pre → offs S pre.length ≤ at_)) ∧ Below w.heap.size w W)
    (fun c pre W => (c = .exit 0 ∧ ∃ (wi : Nat) (l r : ByteArray), SplitI at_ (pre.length - 1) wi l r w.heap.size W ∧ (InOrder pre → Parts S at_ (pre.length - 1) wi l r)) ∧ Below w.heap.size w W)
    (OwnFrom.and (Own.from (fun s X Y row hs hg hr => ⟨splitI_own _ _ _ _ _ _ () X Y row hs.1 hg hr, hs.2⟩) _) (ownFrom_below (Nat.le_refl _) (by omega)))
    (fun c => OwnFrom.and (Own.from (fun s X Y row hs hg hr => by obtain ⟨h0, wi, l, r, h1, h2⟩ := hs; exact ⟨h0, wi, l, r, splitI_own _ _ _ _ _ _ () X Y row h1 hg hr, h2⟩) _) (ownFrom_below (Nat.le_refl _) (by omega)))
    ⟨⟨⟨bA, bL, bR, bN, bI⟩, fun _ => Nat.zero_le _⟩, hB0⟩
    (fun x a' W => ∃ Bx, w.heap.size + 4 < Bx ∧ Boxed W Bx 51 (.string (S x.1)) ∧ a' = { tmps := #[.pointer (some ⟨B, 0, none⟩), .int .i64 (at_ : Int), undef, .pointer (some ⟨w.heap.size, 0, none⟩), .slice none 0 0, .pointer (some ⟨w.heap.size + 1, 0, none⟩), .pointer (some ⟨w.heap.size + 1 + 1, 0, none⟩), .slice none 0 0, .pointer (some ⟨w.heap.size + 1 + 1 + 1, 0, none⟩), .pointer (some ⟨w.heap.size + 1 + 1 + 1 + 1, 0, none⟩), .int .i64 (offs S x.1 : Int), .pointer (some ⟨Bx, 0, none⟩), .pointer (some ⟨B, 0, none⟩), .func (.func 38) #[] #[.pointer (some ⟨w.heap.size + 1 + 1 + 1 + 1 + 1, 0, none⟩)], .int .i64 (offs S x.1 : Int), .agg #[.string (S x.1)], undef, undef, undef, undef, undef, undef, undef, undef, undef, undef, undef, undef, undef, undef, undef, undef, undef, undef, undef, undef, undef, undef, undef, undef, undef, undef, undef, undef, undef, undef, undef, undef, undef, undef, undef, undef, undef, undef, undef, undef, undef, undef, undef, undef, undef, undef, undef, undef, undef, undef, undef, undef, undef], defers := [] })
    (fun x a' _ X Y row hs hg hr => by obtain ⟨Bx, h1, h2, h3⟩ := hs; exact ⟨Bx, h1, boxed_own Bx 51 (fun (_ : Unit) => Value.string (S x.1)) () X Y row h2 hg (fun r e => (hr r e).2), h3⟩)
    ?assign ?body ?done ?stop
  case assign =>
    rintro l pre x W K ⟨⟨hI, hin⟩, hB1⟩ hK
    dsimp only [encP]
    gi_wp2
    have hs := hB1.size
    exact hK _ _ ((KeepsOthers.alloc _ _).from _) (Keeps.alloc W hs _) ⟨⟨splitI_own _ _ _ _ _ _ () _ _ none hI (World.grownBy_alloc W _ none) (fun r e => by cases e), hin⟩, hB1.alloc hs _⟩ ⟨W.heap.size, hI.2.2.2.2.lt, Boxed.new W 51 _, rfl⟩
  case body =>
    rintro ll pre x a' W hl ⟨rr, hr⟩ ⟨⟨⟨bA1, bL1, bR1, bN1, bI1⟩, hin⟩, hB1⟩ ⟨Bx, hBx, bX, rfl⟩ hlt
    have hok : offs S x.1 + (S x.1).size ≤ 1000000 := Nat.le_trans (offs_mono S (show x.1 + 1 ≤ len from x.2)) hoff
    have cX := bX.cell
    have cA := bA1.cell
    have cL := bL1.cell
    have fL := bL1.frozen
    have cR := bR1.cell
    have fR := bR1.frozen
    have cN := bN1.cell
    have fN := bN1.frozen
    have cI := bI1.cell
    have fI := bI1.frozen
    have HB1 := Lib.hid hB1.size
    have HSZ := Lib.hid hsz
    have HIN := Lib.hid hin
    clear hr hsz hin
    by_cases hge : at_ ≤ offs S x.1
    · have hge' : (at_ : Int) ≤ (offs S x.1 : Int) := by omega
      gi_wp2
      refine ⟨KeepsFrom.refl _ _, ⟨rfl, 0, ⟨#[]⟩, ⟨#[]⟩, ?_, fun h => ?_⟩, hB1⟩
      · rw [List.length_append]; exact ⟨bA1, bL1, bR1, bN1, bI1⟩
      · rw [inOrder_snoc] at h
        have h2 := HIN.out h.1
        rw [List.length_append]
        exact .inl ⟨rfl, by show offs S (pre.length + 1 - 1) = _; rw [Nat.add_sub_cancel]; rw [h.2] at hge; omega, rfl, rfl⟩
    · have hge' : ¬ (at_ : Int) ≤ (offs S x.1 : Int) := by omega
      by_cases hgt : at_ < offs S x.1 + (S x.1).size
      · have hgt' : (at_ : Int) < (offs S x.1 : Int) + ((S x.1).size : Int) := by omega
        obtain ⟨d, hd⟩ : ∃ d, d = at_ - offs S x.1 := ⟨_, rfl⟩
        have hdI : (at_ : Int) - (offs S x.1 : Int) = (d : Int) := by omega
        obtain ⟨Lx, hLx⟩ : ∃ Lx, Lx = (S x.1).extract 0 d := ⟨_, rfl⟩
        obtain ⟨Rx, hRx⟩ : ∃ Rx, Rx = (S x.1).extract d (S x.1).size := ⟨_, rfl⟩
        obtain ⟨Wa, hWa⟩ : ∃ Wa, Wa = W.drew.setCell ⟨w.heap.size + 1, 0, none⟩ (.string Lx) := ⟨_, rfl⟩
        obtain ⟨Wb, hWb⟩ : ∃ Wb, Wb = Wa.setCell ⟨w.heap.size + 1 + 1, 0, none⟩ (.string Rx) := ⟨_, rfl⟩
        obtain ⟨wd, hwd⟩ : ∃ wd : Array Bool → World, wd = fun listed => if listed.getD 13 false then Wb else if listed.getD 12 false then Wa else W.drew := ⟨_, rfl⟩
        have HW := Lib.hid (And.intro hWa (And.intro hWb hwd))
        have HL := Lib.hid (And.intro hLx (And.intro hRx (And.intro hd hdI)))
        clear hWa hWb hwd hLx hRx hd hdI
        gi_wp2
        obtain ⟨hLx, hRx, hd, hdI⟩ := HL.out
        have HWs := HW
        obtain ⟨hWa, hWb, hwd⟩ := HW.out
        have hca : ∀ a : Addr, a.block ≠ w.heap.size + 1 → Wa.cell? a = W.cell? a := fun a ha => by rw [hWa]; exact World.cell?_of_block (w := W) (Below.heap_setCell W.drew _ _ _ ha)
        have hfa : ∀ a : Addr, a.block ≠ w.heap.size + 1 → Wa.frozen? a = W.frozen? a := fun a ha => by rw [hWa]; exact World.frozen?_of_block (w := W) (Below.heap_setCell W.drew _ _ _ ha)
        have hcb : ∀ a : Addr, a.block ≠ w.heap.size + 1 + 1 → Wb.cell? a = Wa.cell? a := fun a ha => by rw [hWb]; exact World.cell?_of_block (w := Wa) (Below.heap_setCell Wa _ _ _ ha)
        have cRa := (hca ⟨w.heap.size + 1 + 1, 0, none⟩ (by dsimp only; omega)).trans cR
        have fRa := (hfa ⟨w.heap.size + 1 + 1, 0, none⟩ (by dsimp only; omega)).trans fR
        have hcd : ∀ (listed : Array Bool) (a : Addr), a.block ≠ w.heap.size + 1 → a.block ≠ w.heap.size + 1 + 1 → (wd listed).cell? a = W.cell? a := fun listed a ha hb => by
          rw [hwd]; simp only []; split
          · exact (hcb a hb).trans (hca a ha)
          · split
            · exact hca a ha
            · rfl
        have hwr1 : IntKind.i64.wrap ((at_ : Int) - (offs S x.1 : Int)) = (at_ : Int) - (offs S x.1 : Int) := by rw [IntKind.wrap_i64]; omega
        have hdle : ¬ (S x.1).size < d := by omega
        refine wpIn_region_det_to (by kernel_rfl) (by kernel_rfl) (fun i => [Value.pointer (some ⟨Bx, 0, none⟩), .string (S x.1), .int .i64 (at_ : Int), .int .i64 (offs S x.1 : Int), .int .i64 ((at_ : Int) - (offs S x.1 : Int)), .string Lx, .pointer (some ⟨Bx, 0, none⟩), .string (S x.1), .int .i64 (at_ : Int), .int .i64 (offs S x.1 : Int), .int .i64 ((at_ : Int) - (offs S x.1 : Int)), .string Rx, undef, undef].getD i undef)
          { tmps := #[.pointer (some ⟨B, 0, none⟩), .int .i64 (at_ : Int), undef, .pointer (some ⟨w.heap.size, 0, none⟩), .slice none 0 0, .pointer (some ⟨w.heap.size + 1, 0, none⟩), .pointer (some ⟨w.heap.size + 1 + 1, 0, none⟩), .slice none 0 0, .pointer (some ⟨w.heap.size + 1 + 1 + 1, 0, none⟩), .pointer (some ⟨w.heap.size + 1 + 1 + 1 + 1, 0, none⟩), .int .i64 (offs S x.1 : Int), .pointer (some ⟨Bx, 0, none⟩), .pointer (some ⟨B, 0, none⟩), .func (.func 38) #[] #[.pointer (some ⟨w.heap.size + 1 + 1 + 1 + 1 + 1, 0, none⟩)], .int .i64 (offs S x.1 : Int), .agg #[.string (S x.1)], .bool false, .int .i64 (offs S x.1 : Int), .int .i64 (at_ : Int), .bool false, .bool true, .int .i64 (offs S x.1 : Int), .pointer (some ⟨Bx, 0, none⟩), .string (S x.1), .int .i64 ((S x.1).size : Int), .int .i64 ((offs S x.1 : Int) + ((S x.1).size : Int)), .int .i64 (at_ : Int), .bool true, .pointer (some ⟨Bx, 0, none⟩), .string (S x.1), .int .i64 (at_ : Int), .int .i64 (offs S x.1 : Int), .int .i64 ((at_ : Int) - (offs S x.1 : Int)), .string Lx, .pointer (some ⟨Bx, 0, none⟩), .string (S x.1), .int .i64 (at_ : Int), .int .i64 (offs S x.1 : Int), .int .i64 ((at_ : Int) - (offs S x.1 : Int)), .string Rx, undef, undef, undef, undef, undef, undef, undef, undef, undef, undef, undef, undef, undef, undef, undef, undef, undef, undef, undef, undef, undef, undef, undef, undef, undef, undef, undef, undef, undef], defers := [] } (by kernel_rfl) wd (by rw [hwd]; rfl) ?hstep ?hend
        case hstep =>
          intro i o listed a' ho hsz hu haf hcl hS
          have hnx : ∀ i, i < 14 → i ≠ 12 → i ≠ 13 → wd (listed.setIfInBounds i true) = wd listed := fun i hi h1 h2 => by
            rw [hwd]
            simp only []
            rw [getD_set _ _ _ _ (by rw [hsz]; exact hi), getD_set _ _ _ _ (by rw [hsz]; exact hi), if_neg h1, if_neg h2]
          have hi : i < 14 := (Array.getElem?_eq_some_iff.1 ho).1
          obtain rfl | rfl | rfl | rfl | rfl | rfl | rfl | rfl | rfl | rfl | rfl | rfl | rfl | rfl : i = 0 ∨ i = 1 ∨ i = 2 ∨ i = 3 ∨ i = 4 ∨ i = 5 ∨ i = 6 ∨ i = 7 ∨ i = 8 ∨ i = 9 ∨ i = 10 ∨ i = 11 ∨ i = 12 ∨ i = 13 := by omega
          · cases ho
            have e11 : a'.tmps[11]? = some (.pointer (some ⟨Bx, 0, none⟩)) := (hS.tmpBase 11 (by kernel_rfl)).trans rfl
            rw [hnx 0 (by omega) (by omega) (by omega)]
            refine ⟨by simp [Oper.about], _, ?_, .inl rfl⟩
            rw [Oper.semAt_plain _ _ _ (by intro c h; cases h)]
            simp [execOp, e11, go_sem]
          · cases ho
            have e28 : a'.tmps[28]? = some (.pointer (some ⟨Bx, 0, none⟩)) := hS.tmpSet 0 _ 28 rfl rfl (by simp) (haf ⟨0, .data⟩ (Array.mem_of_getElem? (i := 0) rfl) rfl)
            have hk := hcd listed ⟨Bx, 0, none⟩ (by dsimp only; omega) (by dsimp only; omega)
            rw [cX] at hk
            rw [hnx 1 (by omega) (by omega) (by omega)]
            refine ⟨by simp [Oper.about], _, ?_, .inl rfl⟩
            rw [Oper.semAt_plain _ _ _ (by intro c h; cases h)]
            simp [execOp, e28, hk, go_sem]
          · cases ho
            have e3 : a'.tmps[3]? = some (.pointer (some ⟨w.heap.size, 0, none⟩)) := (hS.tmpBase 3 (by kernel_rfl)).trans rfl
            have hk := hcd listed ⟨w.heap.size, 0, none⟩ (by dsimp only; omega) (by dsimp only; omega)
            rw [cA] at hk
            rw [hnx 2 (by omega) (by omega) (by omega)]
            refine ⟨by simp [Oper.about], _, ?_, .inl rfl⟩
            rw [Oper.semAt_plain _ _ _ (by intro c h; cases h)]
            simp [execOp, e3, hk, go_sem]
          · cases ho
            have e10 : a'.tmps[10]? = some (.int .i64 (offs S x.1 : Int)) := (hS.tmpBase 10 (by kernel_rfl)).trans rfl
            rw [hnx 3 (by omega) (by omega) (by omega)]
            refine ⟨by simp [Oper.about], _, ?_, .inl rfl⟩
            rw [Oper.semAt_plain _ _ _ (by intro c h; cases h)]
            simp [execOp, e10, go_sem]
          · cases ho
            have e30 : a'.tmps[30]? = some (.int .i64 (at_ : Int)) := hS.tmpSet 2 _ 30 rfl rfl (by simp) (haf ⟨2, .data⟩ (Array.mem_of_getElem? (i := 0) rfl) rfl)
            have e31 : a'.tmps[31]? = some (.int .i64 (offs S x.1 : Int)) := hS.tmpSet 3 _ 31 rfl rfl (by simp) (haf ⟨3, .data⟩ (Array.mem_of_getElem? (i := 1) rfl) rfl)
            rw [hnx 4 (by omega) (by omega) (by omega)]
            refine ⟨by simp [Oper.about], _, ?_, .inl rfl⟩
            rw [Oper.semAt_plain _ _ _ (by intro c h; cases h)]
            simp [execOp, e30, e31, hwr1, go_sem]
          · cases ho
            have e29 : a'.tmps[29]? = some (.string (S x.1)) := hS.tmpSet 1 _ 29 rfl rfl (by simp) (haf ⟨1, .data⟩ (Array.mem_of_getElem? (i := 0) rfl) rfl)
            have e32 : a'.tmps[32]? = some (.int .i64 ((at_ : Int) - (offs S x.1 : Int))) := hS.tmpSet 4 _ 32 rfl rfl (by simp) (haf ⟨4, .data⟩ (Array.mem_of_getElem? (i := 1) rfl) rfl)
            rw [hdI] at e32
            rw [hnx 5 (by omega) (by omega) (by omega)]
            refine ⟨by simp [Oper.about], _, ?_, .inl rfl⟩
            rw [Oper.semAt_plain _ _ _ (by intro c h; cases h)]
            simp [execOp, e29, e32, hLx, hdle, go_sem]
          · cases ho
            have e11 : a'.tmps[11]? = some (.pointer (some ⟨Bx, 0, none⟩)) := (hS.tmpBase 11 (by kernel_rfl)).trans rfl
            rw [hnx 6 (by omega) (by omega) (by omega)]
            refine ⟨by simp [Oper.about], _, ?_, .inl rfl⟩
            rw [Oper.semAt_plain _ _ _ (by intro c h; cases h)]
            simp [execOp, e11, go_sem]
          · cases ho
            have e34 : a'.tmps[34]? = some (.pointer (some ⟨Bx, 0, none⟩)) := hS.tmpSet 6 _ 34 rfl rfl (by simp) (haf ⟨6, .data⟩ (Array.mem_of_getElem? (i := 0) rfl) rfl)
            have hk := hcd listed ⟨Bx, 0, none⟩ (by dsimp only; omega) (by dsimp only; omega)
            rw [cX] at hk
            rw [hnx 7 (by omega) (by omega) (by omega)]
            refine ⟨by simp [Oper.about], _, ?_, .inl rfl⟩
            rw [Oper.semAt_plain _ _ _ (by intro c h; cases h)]
            simp [execOp, e34, hk, go_sem]
          · cases ho
            have e3 : a'.tmps[3]? = some (.pointer (some ⟨w.heap.size, 0, none⟩)) := (hS.tmpBase 3 (by kernel_rfl)).trans rfl
            have hk := hcd listed ⟨w.heap.size, 0, none⟩ (by dsimp only; omega) (by dsimp only; omega)
            rw [cA] at hk
            rw [hnx 8 (by omega) (by omega) (by omega)]
            refine ⟨by simp [Oper.about], _, ?_, .inl rfl⟩
            rw [Oper.semAt_plain _ _ _ (by intro c h; cases h)]
            simp [execOp, e3, hk, go_sem]
          · cases ho
            have e10 : a'.tmps[10]? = some (.int .i64 (offs S x.1 : Int)) := (hS.tmpBase 10 (by kernel_rfl)).trans rfl
            rw [hnx 9 (by omega) (by omega) (by omega)]
            refine ⟨by simp [Oper.about], _, ?_, .inl rfl⟩
            rw [Oper.semAt_plain _ _ _ (by intro c h; cases h)]
            simp [execOp, e10, go_sem]
          · cases ho
            have e36 : a'.tmps[36]? = some (.int .i64 (at_ : Int)) := hS.tmpSet 8 _ 36 rfl rfl (by simp) (haf ⟨8, .data⟩ (Array.mem_of_getElem? (i := 0) rfl) rfl)
            have e37 : a'.tmps[37]? = some (.int .i64 (offs S x.1 : Int)) := hS.tmpSet 9 _ 37 rfl rfl (by simp) (haf ⟨9, .data⟩ (Array.mem_of_getElem? (i := 1) rfl) rfl)
            rw [hnx 10 (by omega) (by omega) (by omega)]
            refine ⟨by simp [Oper.about], _, ?_, .inl rfl⟩
            rw [Oper.semAt_plain _ _ _ (by intro c h; cases h)]
            simp [execOp, e36, e37, hwr1, go_sem]
          · cases ho
            have e35 : a'.tmps[35]? = some (.string (S x.1)) := hS.tmpSet 7 _ 35 rfl rfl (by simp) (haf ⟨7, .data⟩ (Array.mem_of_getElem? (i := 0) rfl) rfl)
            have e38 : a'.tmps[38]? = some (.int .i64 ((at_ : Int) - (offs S x.1 : Int))) := hS.tmpSet 10 _ 38 rfl rfl (by simp) (haf ⟨10, .data⟩ (Array.mem_of_getElem? (i := 1) rfl) rfl)
            rw [hdI] at e38
            rw [hnx 11 (by omega) (by omega) (by omega)]
            refine ⟨by simp [Oper.about], _, ?_, .inl rfl⟩
            rw [Oper.semAt_plain _ _ _ (by intro c h; cases h)]
            simp [execOp, e35, e38, hRx, hdle, go_sem]
          · cases ho
            have e5 : a'.tmps[5]? = some (.pointer (some ⟨w.heap.size + 1, 0, none⟩)) := (hS.tmpBase 5 (by kernel_rfl)).trans rfl
            have e33 : a'.tmps[33]? = some (.string Lx) := hS.tmpSet 5 _ 33 rfl rfl (by simp) (haf ⟨5, .data⟩ (Array.mem_of_getElem? (i := 0) rfl) rfl)
            have h13 : listed.getD 13 false = false := Bool.eq_false_iff.2 fun h => by have := hcl 13 _ rfl h ⟨12, .phase⟩ (Array.mem_of_getElem? (i := 14) rfl) rfl; rw [hu] at this; cases this
            have hw0 : wd listed = W.drew := by rw [hwd]; simp only [h13, hu, Bool.false_eq_true, if_false]
            have hw1 : wd (listed.setIfInBounds 12 true) = Wa := by rw [hwd]; simp only []; rw [getD_set _ _ _ _ (by rw [hsz]; exact (by decide : 12 < 14)), getD_set _ _ _ _ (by rw [hsz]; exact (by decide : 12 < 14))]; simp [h13]
            rw [hw0, hw1, hWa]
            refine ⟨by simp [Oper.about], _, ?_, .inr ⟨rfl, rfl⟩⟩
            rw [Oper.semAt_plain _ _ _ (by intro c h; cases h)]
            simp [execOp, e5, e33, cL, fL, go_sem]
          · cases ho
            have e6 : a'.tmps[6]? = some (.pointer (some ⟨w.heap.size + 1 + 1, 0, none⟩)) := (hS.tmpBase 6 (by kernel_rfl)).trans rfl
            have e39 : a'.tmps[39]? = some (.string Rx) := hS.tmpSet 11 _ 39 rfl rfl (by simp) (haf ⟨11, .data⟩ (Array.mem_of_getElem? (i := 0) rfl) rfl)
            have h12 : listed.getD 12 false = true := haf ⟨12, .chain⟩ (Array.mem_of_getElem? (i := 1) rfl) rfl
            have hw0 : wd listed = Wa := by rw [hwd]; simp only [h12, hu, Bool.false_eq_true, if_false, if_true]
            have hw1 : wd (listed.setIfInBounds 13 true) = Wb := by rw [hwd]; simp only []; rw [getD_set _ _ _ _ (by rw [hsz]; exact (by decide : 13 < 14))]; simp
            rw [hw0, hw1, hWb]
            refine ⟨by simp [Oper.about], _, ?_, .inr ⟨rfl, rfl⟩⟩
            rw [Oper.semAt_plain _ _ _ (by intro c h; cases h)]
            simp [execOp, e6, e39, cRa, fRa, go_sem]

        case hend =>
          intro listed hall
          have hw3 : wd listed = Wb := by rw [hwd]; simp only [hall 13 (by decide), if_true]
          rw [hw3]
          have cIb := (hcb ⟨w.heap.size + 1 + 1 + 1 + 1, 0, none⟩ (by dsimp only; omega)).trans ((hca ⟨w.heap.size + 1 + 1 + 1 + 1, 0, none⟩ (by dsimp only; omega)).trans cI)
          have hfb : ∀ a : Addr, a.block ≠ w.heap.size + 1 + 1 → Wb.frozen? a = Wa.frozen? a := fun a ha => by rw [hWb]; exact World.frozen?_of_block (w := Wa) (Below.heap_setCell Wa _ _ _ ha)
          have fIb := (hfb ⟨w.heap.size + 1 + 1 + 1 + 1, 0, none⟩ (by dsimp only; omega)).trans ((hfa ⟨w.heap.size + 1 + 1 + 1 + 1, 0, none⟩ (by dsimp only; omega)).trans fI)
          have h1b : KeepsOthers W Wb := by rw [hWb, hWa]; exact ((KeepsOthers.drew W).trans (KeepsOthers.setCell _ _ _)).trans (KeepsOthers.setCell _ _ _)
          have hss := HSZ.out
          have h2b : Keeps w.heap.size W0.heap.size W Wb := by rw [hWb, hWa]; exact ((Keeps.drew W).trans (Keeps.setCell W.drew (p := ⟨w.heap.size + 1, 0, none⟩) (by dsimp only; omega) (by dsimp only; omega) _)).trans (Keeps.setCell _ (p := ⟨w.heap.size + 1 + 1, 0, none⟩) (by dsimp only; omega) (by dsimp only; omega) _)
          have h3b : SplitI at_ pre.length 1 Lx Rx w.heap.size (Wb.setCell ⟨w.heap.size + 1 + 1 + 1 + 1, 0, none⟩ (.int .i64 1)) := by
            have q1 : ∀ {k t u}, k ≠ w.heap.size + 1 → Boxed W k t u → Boxed Wa k t u := fun hk h => by rw [hWa]; exact Boxed.other (W := W.drew) h hk _
            have q2 : ∀ {k t u}, k ≠ w.heap.size + 1 + 1 → Boxed Wa k t u → Boxed Wb k t u := fun hk h => by rw [hWb]; exact Boxed.other h hk _
            have qL : Boxed Wa (w.heap.size + 1) 9 (.string Lx) := by rw [hWa]; exact Boxed.set (W := W.drew) (.string Lx) bL1
            have qR : Boxed Wb (w.heap.size + 1 + 1) 9 (.string Rx) := by rw [hWb]; exact Boxed.set (.string Rx) (q1 (by omega) bR1)
            exact ⟨(q2 (by omega) (q1 (by omega) bA1)).other (by omega) _, (q2 (by omega) qL).other (by omega) _, qR.other (by omega) _, (q2 (by omega) (q1 (by omega) bN1)).other (by omega) _, (q2 (by omega) (q1 (by omega) bI1)).set _⟩
          have HP : Hid (InOrder (pre ++ [x]) → Parts S at_ pre.length 1 Lx Rx) := fun h => by
            rw [inOrder_snoc] at h
            exact .inr ⟨rfl, by rw [← h.2]; omega, by rw [← h.2]; omega, by rw [← h.2, hLx, hd], by rw [← h.2, hRx, hd]⟩
          have H1 := Lib.hid h1b
          have H2 := Lib.hid h2b
          have H3 := Lib.hid h3b
          clear hLx hRx hd hdI hWa hWb hwd hca hfa hcb hcd hfb cRa fRa hw3 hall h1b h2b h3b hwr1 hdle HWs HL HW cI fI cR fR cL fL cN fN cA cX
          gi_wp2
          refine ⟨(H1.out.trans (KeepsOthers.setCell _ _ _)).from _, ⟨rfl, 1, Lx, Rx, ?_, ?_⟩, (hB1.trans H2.out.below).setCell (p := ⟨w.heap.size + 1 + 1 + 1 + 1, 0, none⟩) (by dsimp only; omega) _⟩
          · rw [List.length_append]; exact H3.out
          · rw [List.length_append]; exact HP.out
      · have hgt' : ¬ (at_ : Int) < (offs S x.1 : Int) + ((S x.1).size : Int) := by omega
        have hp1 : pre.length ≤ 1000000 := by omega
        gi_wp2
        have hss := HSZ.out
        refine ⟨(KeepsOthers.setCell _ _ _).from _, Keeps.setCell W (p := ⟨w.heap.size + 1 + 1 + 1, 0, none⟩) (by dsimp only; omega) (by dsimp only; omega) _, ⟨?_, fun h => ?_⟩, hB1.setCell (p := ⟨w.heap.size + 1 + 1 + 1, 0, none⟩) (by dsimp only; omega) _⟩
        · have := bN1.set (.int .i64 (((pre ++ [x]).length : Nat) : Int))
          rw [List.length_append, List.length_singleton] at this ⊢
          exact ⟨bA1.other (by omega) _, bL1.other (by omega) _, bR1.other (by omega) _, by simpa using this, bI1.other (by omega) _⟩
        · rw [inOrder_snoc] at h
          rw [List.length_append, List.length_singleton, offs_succ, ← h.2]; omega
  case done =>
    rintro C zs W hD hz ⟨⟨⟨bA1, bL1, bR1, bN1, bI1⟩, hin⟩, hB1⟩ hK
    obtain ⟨hi1, hi2⟩ := inOrder_of hz
    have hle := hin hi1
    have cB' := (hB1.cell (p := ⟨B, 0, none⟩) hB).trans cB
    rw [hi2] at hle bN1
    have HP0 : Parts S at_ len 0 ⟨#[]⟩ ⟨#[]⟩ := .inl ⟨rfl, by omega, rfl, rfl⟩
    have hcw0 : len + 0 ≤ len := Nat.le_refl _
    clear hz hin hi2 hi1 hle
    obtain ⟨cnt, hcnt⟩ : ∃ cnt, cnt = len := ⟨_, rfl⟩
    obtain ⟨wi, hwi⟩ : ∃ wi, wi = 0 := ⟨_, rfl⟩
    obtain ⟨l, hl⟩ : ∃ l : ByteArray, l = ⟨#[]⟩ := ⟨_, rfl⟩
    obtain ⟨r, hr⟩ : ∃ r : ByteArray, r = ⟨#[]⟩ := ⟨_, rfl⟩
    have bI1' : Boxed W (w.heap.size + 1 + 1 + 1 + 1) 3 (.int .i64 (wi : Int)) := by rw [hwi]; exact bI1
    have bL1' : Boxed W (w.heap.size + 1) 9 (.string l) := by rw [hl]; exact bL1
    have bR1' : Boxed W (w.heap.size + 1 + 1) 9 (.string r) := by rw [hr]; exact bR1
    clear bI1 bL1 bR1
    have bI1 := bI1'
    have bL1 := bL1'
    have bR1 := bR1'
    clear bI1' bL1' bR1'
    rw [← hcnt] at bN1
    have HP1 : Parts S at_ cnt wi l r := by rw [hcnt, hwi, hl, hr]; exact HP0
    have HP := Lib.hid HP1
    have hcw0 : cnt + wi ≤ len := by omega
    clear HP0 HP1 hwi hl hr hcnt
    have hcw : cnt + wi ≤ len := hcw0
    obtain ⟨hd, hs1, hh1⟩ := slice_head hv (k := cnt) (by omega) hlen
    obtain ⟨tl, hs2, hh2⟩ := slice_tail hv (k := cnt + wi) hcw hlen ((cnt : Int) + (wi : Int)) (by omega)
    obtain ⟨a0, c0, hvv⟩ : ∃ a0 c0, v = .slice a0 len c0 := by
      rcases hv with ⟨e, e0⟩ | ⟨b, off, cap, e, _⟩
      · exact ⟨none, 0, by rw [e, e0]⟩
      · exact ⟨_, cap, e⟩
    rw [hvv] at hs1 hs2 cB'
    have hwr : IntKind.i64.wrap ((cnt : Int) + (wi : Int)) = (cnt : Int) + (wi : Int) := by rw [IntKind.wrap_i64]; omega
    have kB : W.drew.cell? ⟨B, 0, none⟩ = some (.slice a0 len c0) := cB'
    have kN : W.drew.cell? ⟨w.heap.size + 1 + 1 + 1, 0, none⟩ = _ := bN1.cell
    have kI : W.drew.cell? ⟨w.heap.size + 1 + 1 + 1 + 1, 0, none⟩ = _ := bI1.cell
    have kL : W.drew.cell? ⟨w.heap.size + 1, 0, none⟩ = _ := bL1.cell
    have kR : W.drew.cell? ⟨w.heap.size + 1 + 1, 0, none⟩ = _ := bR1.cell
    have fL0 : W.drew.frozen? ⟨w.heap.size + 1, 0, none⟩ = false := bL1.frozen
    have fR0 : W.drew.frozen? ⟨w.heap.size + 1 + 1, 0, none⟩ = false := bR1.frozen
    have sL : W.drew.setCell ⟨w.heap.size + 1, 0, none⟩ (.string l) = W.drew := setCell_self (W := W.drew) bL1
    have sR : W.drew.setCell ⟨w.heap.size + 1 + 1, 0, none⟩ (.string r) = W.drew := setCell_self (W := W.drew) bR1
    have HB := Lib.hid hB1
    have HK := Lib.hid hK
    have HS := Lib.hid hsz
    have HV := Lib.hid hvv
    clear hsz hB1 hK hvv
    clear bA bL bR bN bI bP hB0
    gi_wp2
    refine wpIn_region_det_to (by kernel_rfl) (by kernel_rfl) (fun i => [Value.pointer (some ⟨B, 0, none⟩), .pointer (some ⟨B, 0, none⟩), .pointer (some ⟨B, 0, none⟩), .slice a0 len c0, .int .i64 (cnt : Int), .int .i64 (cnt : Int), hd, .string l, .string r, .pointer (some ⟨B, 0, none⟩), .pointer (some ⟨B, 0, none⟩), .pointer (some ⟨B, 0, none⟩), .slice a0 len c0, .int .i64 (cnt : Int), .int .i64 (wi : Int), .int .i64 ((cnt : Int) + (wi : Int)), .pointer (some ⟨B, 0, none⟩), .pointer (some ⟨B, 0, none⟩), .pointer (some ⟨B, 0, none⟩), .slice a0 len c0, .int .i64 (len : Int), .pointer (some ⟨B, 0, none⟩), .pointer (some ⟨B, 0, none⟩), .pointer (some ⟨B, 0, none⟩), .slice a0 len c0, .int .i64 (len : Int), tl, hd, undef, undef, tl].getD i undef)
      { tmps := #[.pointer (some ⟨B, 0, none⟩), .int .i64 (at_ : Int), undef, .pointer (some ⟨w.heap.size, 0, none⟩), hd, .pointer (some ⟨w.heap.size + 1, 0, none⟩), .pointer (some ⟨w.heap.size + 1 + 1, 0, none⟩), tl, .pointer (some ⟨w.heap.size + 1 + 1 + 1, 0, none⟩), .pointer (some ⟨w.heap.size + 1 + 1 + 1 + 1, 0, none⟩), undef, undef, .pointer (some ⟨B, 0, none⟩), .func (.func 38) #[] #[.pointer (some ⟨w.heap.size + 1 + 1 + 1 + 1 + 1, 0, none⟩)], undef, undef, undef, undef, undef, undef, undef, undef, undef, undef, undef, undef, undef, undef, undef, undef, undef, undef, undef, undef, undef, undef, undef, undef, undef, undef, undef, undef, .pointer (some ⟨B, 0, none⟩), .pointer (some ⟨B, 0, none⟩), .pointer (some ⟨B, 0, none⟩), .slice a0 len c0, .int .i64 (cnt : Int), .int .i64 (cnt : Int), hd, .string l, .string r, .pointer (some ⟨B, 0, none⟩), .pointer (some ⟨B, 0, none⟩), .pointer (some ⟨B, 0, none⟩), .slice a0 len c0, .int .i64 (cnt : Int), .int .i64 (wi : Int), .int .i64 ((cnt : Int) + (wi : Int)), .pointer (some ⟨B, 0, none⟩), .pointer (some ⟨B, 0, none⟩), .pointer (some ⟨B, 0, none⟩), .slice a0 len c0, .int .i64 (len : Int), .pointer (some ⟨B, 0, none⟩), .pointer (some ⟨B, 0, none⟩), .pointer (some ⟨B, 0, none⟩), .slice a0 len c0, .int .i64 (len : Int), tl], defers := [{ target := .collected C, args := #[] }] } (by kernel_rfl) (fun _ => W.drew) rfl ?hstep ?hend
    case hstep =>
      intro i o listed a' ho hsz hu haf hcl hS
      have hi : i < 31 := (Array.getElem?_eq_some_iff.1 ho).1
      obtain rfl | rfl | rfl | rfl | rfl | rfl | rfl | rfl | rfl | rfl | rfl | rfl | rfl | rfl | rfl | rfl | rfl | rfl | rfl | rfl | rfl | rfl | rfl | rfl | rfl | rfl | rfl | rfl | rfl | rfl | rfl : i = 0 ∨ i = 1 ∨ i = 2 ∨ i = 3 ∨ i = 4 ∨ i = 5 ∨ i = 6 ∨ i = 7 ∨ i = 8 ∨ i = 9 ∨ i = 10 ∨ i = 11 ∨ i = 12 ∨ i = 13 ∨ i = 14 ∨ i = 15 ∨ i = 16 ∨ i = 17 ∨ i = 18 ∨ i = 19 ∨ i = 20 ∨ i = 21 ∨ i = 22 ∨ i = 23 ∨ i = 24 ∨ i = 25 ∨ i = 26 ∨ i = 27 ∨ i = 28 ∨ i = 29 ∨ i = 30 := by omega
      · cases ho
        have e0 : a'.tmps[0]? = some (.pointer (some ⟨B, 0, none⟩)) := (hS.tmpBase 0 (by kernel_rfl)).trans rfl
        refine ⟨by simp [Oper.about], _, ?_, .inl rfl⟩
        rw [Oper.semAt_plain _ _ _ (by intro c h; cases h)]
        simp [execOp, e0, go_sem]
      · cases ho
        have e42 : a'.tmps[42]? = some (.pointer (some ⟨B, 0, none⟩)) := hS.tmpSet 0 _ 42 rfl rfl (by simp) (haf ⟨0, .data⟩ (Array.mem_of_getElem? (i := 0) rfl) rfl)
        refine ⟨by simp [Oper.about], _, ?_, .inl rfl⟩
        rw [Oper.semAt_plain _ _ _ (by intro c h; cases h)]
        simp [execOp, e42, go_sem]
      · cases ho
        have e43 : a'.tmps[43]? = some (.pointer (some ⟨B, 0, none⟩)) := hS.tmpSet 1 _ 43 rfl rfl (by simp) (haf ⟨1, .data⟩ (Array.mem_of_getElem? (i := 0) rfl) rfl)
        refine ⟨by simp [Oper.about], _, ?_, .inl rfl⟩
        rw [Oper.semAt_plain _ _ _ (by intro c h; cases h)]
        simp [execOp, e43, go_sem]
      · cases ho
        have e44 : a'.tmps[44]? = some (.pointer (some ⟨B, 0, none⟩)) := hS.tmpSet 2 _ 44 rfl rfl (by simp) (haf ⟨2, .data⟩ (Array.mem_of_getElem? (i := 0) rfl) rfl)
        refine ⟨by simp [Oper.about], _, ?_, .inl rfl⟩
        rw [Oper.semAt_plain _ _ _ (by intro c h; cases h)]
        simp [execOp, e44, kB, go_sem]
      · cases ho
        have e8 : a'.tmps[8]? = some (.pointer (some ⟨w.heap.size + 1 + 1 + 1, 0, none⟩)) := (hS.tmpBase 8 (by kernel_rfl)).trans rfl
        refine ⟨by simp [Oper.about], _, ?_, .inl rfl⟩
        rw [Oper.semAt_plain _ _ _ (by intro c h; cases h)]
        simp [execOp, e8, kN, go_sem]
      · cases ho
        have e8 : a'.tmps[8]? = some (.pointer (some ⟨w.heap.size + 1 + 1 + 1, 0, none⟩)) := (hS.tmpBase 8 (by kernel_rfl)).trans rfl
        refine ⟨by simp [Oper.about], _, ?_, .inl rfl⟩
        rw [Oper.semAt_plain _ _ _ (by intro c h; cases h)]
        simp [execOp, e8, kN, go_sem]
      · cases ho
        have e45 : a'.tmps[45]? = some (.slice a0 len c0) := hS.tmpSet 3 _ 45 rfl rfl (by simp) (haf ⟨3, .data⟩ (Array.mem_of_getElem? (i := 0) rfl) rfl)
        have e46 : a'.tmps[46]? = some (.int .i64 (cnt : Int)) := hS.tmpSet 4 _ 46 rfl rfl (by simp) (haf ⟨4, .data⟩ (Array.mem_of_getElem? (i := 1) rfl) rfl)
        have e47 : a'.tmps[47]? = some (.int .i64 (cnt : Int)) := hS.tmpSet 5 _ 47 rfl rfl (by simp) (haf ⟨5, .data⟩ (Array.mem_of_getElem? (i := 2) rfl) rfl)
        refine ⟨by simp [Oper.about], _, ?_, .inl rfl⟩
        rw [Oper.semAt_plain _ _ _ (by intro c h; cases h)]
        simp [execOp, e45, e46, e47, hs1, go_sem]
      · cases ho
        have e5 : a'.tmps[5]? = some (.pointer (some ⟨w.heap.size + 1, 0, none⟩)) := (hS.tmpBase 5 (by kernel_rfl)).trans rfl
        refine ⟨by simp [Oper.about], _, ?_, .inl rfl⟩
        rw [Oper.semAt_plain _ _ _ (by intro c h; cases h)]
        simp [execOp, e5, kL, go_sem]
      · cases ho
        have e6 : a'.tmps[6]? = some (.pointer (some ⟨w.heap.size + 1 + 1, 0, none⟩)) := (hS.tmpBase 6 (by kernel_rfl)).trans rfl
        refine ⟨by simp [Oper.about], _, ?_, .inl rfl⟩
        rw [Oper.semAt_plain _ _ _ (by intro c h; cases h)]
        simp [execOp, e6, kR, go_sem]
      · cases ho
        have e0 : a'.tmps[0]? = some (.pointer (some ⟨B, 0, none⟩)) := (hS.tmpBase 0 (by kernel_rfl)).trans rfl
        refine ⟨by simp [Oper.about], _, ?_, .inl rfl⟩
        rw [Oper.semAt_plain _ _ _ (by intro c h; cases h)]
        simp [execOp, e0, go_sem]
      · cases ho
        have e51 : a'.tmps[51]? = some (.pointer (some ⟨B, 0, none⟩)) := hS.tmpSet 9 _ 51 rfl rfl (by simp) (haf ⟨9, .data⟩ (Array.mem_of_getElem? (i := 0) rfl) rfl)
        refine ⟨by simp [Oper.about], _, ?_, .inl rfl⟩
        rw [Oper.semAt_plain _ _ _ (by intro c h; cases h)]
        simp [execOp, e51, go_sem]
      · cases ho
        have e52 : a'.tmps[52]? = some (.pointer (some ⟨B, 0, none⟩)) := hS.tmpSet 10 _ 52 rfl rfl (by simp) (haf ⟨10, .data⟩ (Array.mem_of_getElem? (i := 0) rfl) rfl)
        refine ⟨by simp [Oper.about], _, ?_, .inl rfl⟩
        rw [Oper.semAt_plain _ _ _ (by intro c h; cases h)]
        simp [execOp, e52, go_sem]
      · cases ho
        have e53 : a'.tmps[53]? = some (.pointer (some ⟨B, 0, none⟩)) := hS.tmpSet 11 _ 53 rfl rfl (by simp) (haf ⟨11, .data⟩ (Array.mem_of_getElem? (i := 0) rfl) rfl)
        refine ⟨by simp [Oper.about], _, ?_, .inl rfl⟩
        rw [Oper.semAt_plain _ _ _ (by intro c h; cases h)]
        simp [execOp, e53, kB, go_sem]
      · cases ho
        have e8 : a'.tmps[8]? = some (.pointer (some ⟨w.heap.size + 1 + 1 + 1, 0, none⟩)) := (hS.tmpBase 8 (by kernel_rfl)).trans rfl
        refine ⟨by simp [Oper.about], _, ?_, .inl rfl⟩
        rw [Oper.semAt_plain _ _ _ (by intro c h; cases h)]
        simp [execOp, e8, kN, go_sem]
      · cases ho
        have e9 : a'.tmps[9]? = some (.pointer (some ⟨w.heap.size + 1 + 1 + 1 + 1, 0, none⟩)) := (hS.tmpBase 9 (by kernel_rfl)).trans rfl
        refine ⟨by simp [Oper.about], _, ?_, .inl rfl⟩
        rw [Oper.semAt_plain _ _ _ (by intro c h; cases h)]
        simp [execOp, e9, kI, go_sem]
      · cases ho
        have e55 : a'.tmps[55]? = some (.int .i64 (cnt : Int)) := hS.tmpSet 13 _ 55 rfl rfl (by simp) (haf ⟨13, .data⟩ (Array.mem_of_getElem? (i := 0) rfl) rfl)
        have e56 : a'.tmps[56]? = some (.int .i64 (wi : Int)) := hS.tmpSet 14 _ 56 rfl rfl (by simp) (haf ⟨14, .data⟩ (Array.mem_of_getElem? (i := 1) rfl) rfl)
        refine ⟨by simp [Oper.about], _, ?_, .inl rfl⟩
        rw [Oper.semAt_plain _ _ _ (by intro c h; cases h)]
        simp [execOp, e55, e56, hwr, go_sem]
      · cases ho
        have e0 : a'.tmps[0]? = some (.pointer (some ⟨B, 0, none⟩)) := (hS.tmpBase 0 (by kernel_rfl)).trans rfl
        refine ⟨by simp [Oper.about], _, ?_, .inl rfl⟩
        rw [Oper.semAt_plain _ _ _ (by intro c h; cases h)]
        simp [execOp, e0, go_sem]
      · cases ho
        have e58 : a'.tmps[58]? = some (.pointer (some ⟨B, 0, none⟩)) := hS.tmpSet 16 _ 58 rfl rfl (by simp) (haf ⟨16, .data⟩ (Array.mem_of_getElem? (i := 0) rfl) rfl)
        refine ⟨by simp [Oper.about], _, ?_, .inl rfl⟩
        rw [Oper.semAt_plain _ _ _ (by intro c h; cases h)]
        simp [execOp, e58, go_sem]
      · cases ho
        have e59 : a'.tmps[59]? = some (.pointer (some ⟨B, 0, none⟩)) := hS.tmpSet 17 _ 59 rfl rfl (by simp) (haf ⟨17, .data⟩ (Array.mem_of_getElem? (i := 0) rfl) rfl)
        refine ⟨by simp [Oper.about], _, ?_, .inl rfl⟩
        rw [Oper.semAt_plain _ _ _ (by intro c h; cases h)]
        simp [execOp, e59, go_sem]
      · cases ho
        have e60 : a'.tmps[60]? = some (.pointer (some ⟨B, 0, none⟩)) := hS.tmpSet 18 _ 60 rfl rfl (by simp) (haf ⟨18, .data⟩ (Array.mem_of_getElem? (i := 0) rfl) rfl)
        refine ⟨by simp [Oper.about], _, ?_, .inl rfl⟩
        rw [Oper.semAt_plain _ _ _ (by intro c h; cases h)]
        simp [execOp, e60, kB, go_sem]
      · cases ho
        have e61 : a'.tmps[61]? = some (.slice a0 len c0) := hS.tmpSet 19 _ 61 rfl rfl (by simp) (haf ⟨19, .data⟩ (Array.mem_of_getElem? (i := 0) rfl) rfl)
        refine ⟨by simp [Oper.about, resolve, Target.leads, Sem.run_pure], _, ?_, .inl rfl⟩
        rw [Oper.semAt_plain _ _ _ (by intro c h; cases h)]
        simp [execOp, e61, go_sem]
      · cases ho
        have e0 : a'.tmps[0]? = some (.pointer (some ⟨B, 0, none⟩)) := (hS.tmpBase 0 (by kernel_rfl)).trans rfl
        refine ⟨by simp [Oper.about], _, ?_, .inl rfl⟩
        rw [Oper.semAt_plain _ _ _ (by intro c h; cases h)]
        simp [execOp, e0, go_sem]
      · cases ho
        have e63 : a'.tmps[63]? = some (.pointer (some ⟨B, 0, none⟩)) := hS.tmpSet 21 _ 63 rfl rfl (by simp) (haf ⟨21, .data⟩ (Array.mem_of_getElem? (i := 0) rfl) rfl)
        refine ⟨by simp [Oper.about], _, ?_, .inl rfl⟩
        rw [Oper.semAt_plain _ _ _ (by intro c h; cases h)]
        simp [execOp, e63, go_sem]
      · cases ho
        have e64 : a'.tmps[64]? = some (.pointer (some ⟨B, 0, none⟩)) := hS.tmpSet 22 _ 64 rfl rfl (by simp) (haf ⟨22, .data⟩ (Array.mem_of_getElem? (i := 0) rfl) rfl)
        refine ⟨by simp [Oper.about], _, ?_, .inl rfl⟩
        rw [Oper.semAt_plain _ _ _ (by intro c h; cases h)]
        simp [execOp, e64, go_sem]
      · cases ho
        have e65 : a'.tmps[65]? = some (.pointer (some ⟨B, 0, none⟩)) := hS.tmpSet 23 _ 65 rfl rfl (by simp) (haf ⟨23, .data⟩ (Array.mem_of_getElem? (i := 0) rfl) rfl)
        refine ⟨by simp [Oper.about], _, ?_, .inl rfl⟩
        rw [Oper.semAt_plain _ _ _ (by intro c h; cases h)]
        simp [execOp, e65, kB, go_sem]
      · cases ho
        have e66 : a'.tmps[66]? = some (.slice a0 len c0) := hS.tmpSet 24 _ 66 rfl rfl (by simp) (haf ⟨24, .data⟩ (Array.mem_of_getElem? (i := 0) rfl) rfl)
        refine ⟨by simp [Oper.about, resolve, Target.leads, Sem.run_pure], _, ?_, .inl rfl⟩
        rw [Oper.semAt_plain _ _ _ (by intro c h; cases h)]
        simp [execOp, e66, go_sem]
      · cases ho
        have e54 : a'.tmps[54]? = some (.slice a0 len c0) := hS.tmpSet 12 _ 54 rfl rfl (by simp) (haf ⟨12, .data⟩ (Array.mem_of_getElem? (i := 0) rfl) rfl)
        have e57 : a'.tmps[57]? = some (.int .i64 ((cnt : Int) + (wi : Int))) := hS.tmpSet 15 _ 57 rfl rfl (by simp) (haf ⟨15, .data⟩ (Array.mem_of_getElem? (i := 1) rfl) rfl)
        have e62 : a'.tmps[62]? = some (.int .i64 (len : Int)) := hS.tmpSet 20 _ 62 rfl rfl (by simp) (haf ⟨20, .data⟩ (Array.mem_of_getElem? (i := 2) rfl) rfl)
        have e67 : a'.tmps[67]? = some (.int .i64 (len : Int)) := hS.tmpSet 25 _ 67 rfl rfl (by simp) (haf ⟨25, .data⟩ (Array.mem_of_getElem? (i := 3) rfl) rfl)
        refine ⟨by simp [Oper.about], _, ?_, .inl rfl⟩
        rw [Oper.semAt_plain _ _ _ (by intro c h; cases h)]
        simp [execOp, e54, e57, e62, e67, hs2, go_sem]
      · cases ho
        have e48 : a'.tmps[48]? = some (hd) := hS.tmpSet 6 _ 48 rfl rfl (by simp) (haf ⟨6, .data⟩ (Array.mem_of_getElem? (i := 0) rfl) rfl)
        refine ⟨by simp [Oper.about], _, ?_, .inl rfl⟩
        rw [Oper.semAt_plain _ _ _ (by intro c h; cases h)]
        simp [execOp, e48, go_sem]
      · cases ho
        have e5 : a'.tmps[5]? = some (.pointer (some ⟨w.heap.size + 1, 0, none⟩)) := (hS.tmpBase 5 (by kernel_rfl)).trans rfl
        have e49 : a'.tmps[49]? = some (.string l) := hS.tmpSet 7 _ 49 rfl rfl (by simp) (haf ⟨7, .data⟩ (Array.mem_of_getElem? (i := 0) rfl) rfl)
        refine ⟨by simp [Oper.about], _, ?_, .inr ⟨rfl, rfl⟩⟩
        rw [Oper.semAt_plain _ _ _ (by intro c h; cases h)]
        simp [execOp, e5, e49, kL, fL0, sL, go_sem]
      · cases ho
        have e6 : a'.tmps[6]? = some (.pointer (some ⟨w.heap.size + 1 + 1, 0, none⟩)) := (hS.tmpBase 6 (by kernel_rfl)).trans rfl
        have e50 : a'.tmps[50]? = some (.string r) := hS.tmpSet 8 _ 50 rfl rfl (by simp) (haf ⟨8, .data⟩ (Array.mem_of_getElem? (i := 0) rfl) rfl)
        refine ⟨by simp [Oper.about], _, ?_, .inr ⟨rfl, rfl⟩⟩
        rw [Oper.semAt_plain _ _ _ (by intro c h; cases h)]
        simp [execOp, e6, e50, kR, fR0, sR, go_sem]
      · cases ho
        have e68 : a'.tmps[68]? = some (tl) := hS.tmpSet 26 _ 68 rfl rfl (by simp) (haf ⟨26, .data⟩ (Array.mem_of_getElem? (i := 0) rfl) rfl)
        refine ⟨by simp [Oper.about], _, ?_, .inl rfl⟩
        rw [Oper.semAt_plain _ _ _ (by intro c h; cases h)]
        simp [execOp, e68, go_sem]
    case hend =>
      intro _ _
      have q1 := Lib.hid hs1
      have q2 := Lib.hid hs2
      clear hs1 hs2 hwr sL sR
      gi_wp2
      rw [Exit.noGoto_ret]
      have hss := HS.out
      refine ⟨by simp, .inl ⟨_, W.drew.putObj C (.deferred none), rfl, run_takeDeferred (w := W.drew) HK.out, ?_⟩⟩
      refine ⟨.tuple #[hd, .string l, .string r, tl], ?_, cnt, wi, l, r, hd, tl, rfl, hcw, HP.out, hh1, hh2, HB.out.drew.trans (belowK_b (w := w) (Nat.le_refl _) W.drew C _ _ (by omega) HK.out rfl rfl)⟩
      have g1 := cell_kept kL (grownBy_putObj' W.drew C (.deferred none)) (fun r e => by cases e; exact ⟨_, HK.out, rfl⟩)
      have g2 := cell_kept kR (grownBy_putObj' W.drew C (.deferred none)) (fun r e => by cases e; exact ⟨_, HK.out, rfl⟩)
      simp [results, Tryd.f34, go_sem, g1, g2]
  case stop =>
    rintro C c pre W hD ⟨k, hk, hz⟩ ⟨⟨rfl, wi, l, r, ⟨bA1, bL1, bR1, bN1, bI1⟩, hin⟩, hB1⟩ hK
    obtain ⟨hi1, hi2⟩ := inOrder_of hz
    have cB' := (hB1.cell (p := ⟨B, 0, none⟩) hB).trans cB
    obtain ⟨cnt, hcnt⟩ : ∃ cnt, cnt = pre.length - 1 := ⟨_, rfl⟩
    rw [← hcnt] at bN1 hin
    have hpp := hin hi1
    have HP := Lib.hid hpp
    have hcw0 : cnt + wi ≤ len := by
      rcases hpp with ⟨e1, e2, _⟩ | ⟨e1, e2, e3, _⟩
      · omega
      · rcases Nat.eq_zero_or_pos k with hk0 | hk0
        · rcases Nat.eq_zero_or_pos len with hl0 | hl0
          · rw [hl0] at hat
            have : offs S 0 = 0 := rfl
            omega
          · omega
        · omega
    clear hz hin hi2 hi1 hcnt hpp
    have hcw : cnt + wi ≤ len := hcw0
    obtain ⟨hd, hs1, hh1⟩ := slice_head hv (k := cnt) (by omega) hlen
    obtain ⟨tl, hs2, hh2⟩ := slice_tail hv (k := cnt + wi) hcw hlen ((cnt : Int) + (wi : Int)) (by omega)
    obtain ⟨a0, c0, hvv⟩ : ∃ a0 c0, v = .slice a0 len c0 := by
      rcases hv with ⟨e, e0⟩ | ⟨b, off, cap, e, _⟩
      · exact ⟨none, 0, by rw [e, e0]⟩
      · exact ⟨_, cap, e⟩
    rw [hvv] at hs1 hs2 cB'
    have hwr : IntKind.i64.wrap ((cnt : Int) + (wi : Int)) = (cnt : Int) + (wi : Int) := by rw [IntKind.wrap_i64]; omega
    have kB : W.drew.cell? ⟨B, 0, none⟩ = some (.slice a0 len c0) := cB'
    have kN : W.drew.cell? ⟨w.heap.size + 1 + 1 + 1, 0, none⟩ = _ := bN1.cell
    have kI : W.drew.cell? ⟨w.heap.size + 1 + 1 + 1 + 1, 0, none⟩ = _ := bI1.cell
    have kL : W.drew.cell? ⟨w.heap.size + 1, 0, none⟩ = _ := bL1.cell
    have kR : W.drew.cell? ⟨w.heap.size + 1 + 1, 0, none⟩ = _ := bR1.cell
    have fL0 : W.drew.frozen? ⟨w.heap.size + 1, 0, none⟩ = false := bL1.frozen
    have fR0 : W.drew.frozen? ⟨w.heap.size + 1 + 1, 0, none⟩ = false := bR1.frozen
    have sL : W.drew.setCell ⟨w.heap.size + 1, 0, none⟩ (.string l) = W.drew := setCell_self (W := W.drew) bL1
    have sR : W.drew.setCell ⟨w.heap.size + 1 + 1, 0, none⟩ (.string r) = W.drew := setCell_self (W := W.drew) bR1
    have HB := Lib.hid hB1
    have HK := Lib.hid hK
    have HS := Lib.hid hsz
    have HV := Lib.hid hvv
    clear hsz hB1 hK hvv
    clear bA bL bR bN bI bP hB0
    gi_wp2
    refine wpIn_region_det_to (by kernel_rfl) (by kernel_rfl) (fun i => [Value.pointer (some ⟨B, 0, none⟩), .pointer (some ⟨B, 0, none⟩), .pointer (some ⟨B, 0, none⟩), .slice a0 len c0, .int .i64 (cnt : Int), .int .i64 (cnt : Int), hd, .string l, .string r, .pointer (some ⟨B, 0, none⟩), .pointer (some ⟨B, 0, none⟩), .pointer (some ⟨B, 0, none⟩), .slice a0 len c0, .int .i64 (cnt : Int), .int .i64 (wi : Int), .int .i64 ((cnt : Int) + (wi : Int)), .pointer (some ⟨B, 0, none⟩), .pointer (some ⟨B, 0, none⟩), .pointer (some ⟨B, 0, none⟩), .slice a0 len c0, .int .i64 (len : Int), .pointer (some ⟨B, 0, none⟩), .pointer (some ⟨B, 0, none⟩), .pointer (some ⟨B, 0, none⟩), .slice a0 len c0, .int .i64 (len : Int), tl, hd, undef, undef, tl].getD i undef)
      { tmps := #[.pointer (some ⟨B, 0, none⟩), .int .i64 (at_ : Int), undef, .pointer (some ⟨w.heap.size, 0, none⟩), hd, .pointer (some ⟨w.heap.size + 1, 0, none⟩), .pointer (some ⟨w.heap.size + 1 + 1, 0, none⟩), tl, .pointer (some ⟨w.heap.size + 1 + 1 + 1, 0, none⟩), .pointer (some ⟨w.heap.size + 1 + 1 + 1 + 1, 0, none⟩), undef, undef, .pointer (some ⟨B, 0, none⟩), .func (.func 38) #[] #[.pointer (some ⟨w.heap.size + 1 + 1 + 1 + 1 + 1, 0, none⟩)], undef, undef, undef, undef, undef, undef, undef, undef, undef, undef, undef, undef, undef, undef, undef, undef, undef, undef, undef, undef, undef, undef, undef, undef, undef, undef, undef, undef, .pointer (some ⟨B, 0, none⟩), .pointer (some ⟨B, 0, none⟩), .pointer (some ⟨B, 0, none⟩), .slice a0 len c0, .int .i64 (cnt : Int), .int .i64 (cnt : Int), hd, .string l, .string r, .pointer (some ⟨B, 0, none⟩), .pointer (some ⟨B, 0, none⟩), .pointer (some ⟨B, 0, none⟩), .slice a0 len c0, .int .i64 (cnt : Int), .int .i64 (wi : Int), .int .i64 ((cnt : Int) + (wi : Int)), .pointer (some ⟨B, 0, none⟩), .pointer (some ⟨B, 0, none⟩), .pointer (some ⟨B, 0, none⟩), .slice a0 len c0, .int .i64 (len : Int), .pointer (some ⟨B, 0, none⟩), .pointer (some ⟨B, 0, none⟩), .pointer (some ⟨B, 0, none⟩), .slice a0 len c0, .int .i64 (len : Int), tl], defers := [{ target := .collected C, args := #[] }] } (by kernel_rfl) (fun _ => W.drew) rfl ?hstep ?hend
    case hstep =>
      intro i o listed a' ho hsz hu haf hcl hS
      have hi : i < 31 := (Array.getElem?_eq_some_iff.1 ho).1
      obtain rfl | rfl | rfl | rfl | rfl | rfl | rfl | rfl | rfl | rfl | rfl | rfl | rfl | rfl | rfl | rfl | rfl | rfl | rfl | rfl | rfl | rfl | rfl | rfl | rfl | rfl | rfl | rfl | rfl | rfl | rfl : i = 0 ∨ i = 1 ∨ i = 2 ∨ i = 3 ∨ i = 4 ∨ i = 5 ∨ i = 6 ∨ i = 7 ∨ i = 8 ∨ i = 9 ∨ i = 10 ∨ i = 11 ∨ i = 12 ∨ i = 13 ∨ i = 14 ∨ i = 15 ∨ i = 16 ∨ i = 17 ∨ i = 18 ∨ i = 19 ∨ i = 20 ∨ i = 21 ∨ i = 22 ∨ i = 23 ∨ i = 24 ∨ i = 25 ∨ i = 26 ∨ i = 27 ∨ i = 28 ∨ i = 29 ∨ i = 30 := by omega
      · cases ho
        have e0 : a'.tmps[0]? = some (.pointer (some ⟨B, 0, none⟩)) := (hS.tmpBase 0 (by kernel_rfl)).trans rfl
        refine ⟨by simp [Oper.about], _, ?_, .inl rfl⟩
        rw [Oper.semAt_plain _ _ _ (by intro c h; cases h)]
        simp [execOp, e0, go_sem]
      · cases ho
        have e42 : a'.tmps[42]? = some (.pointer (some ⟨B, 0, none⟩)) := hS.tmpSet 0 _ 42 rfl rfl (by simp) (haf ⟨0, .data⟩ (Array.mem_of_getElem? (i := 0) rfl) rfl)
        refine ⟨by simp [Oper.about], _, ?_, .inl rfl⟩
        rw [Oper.semAt_plain _ _ _ (by intro c h; cases h)]
        simp [execOp, e42, go_sem]
      · cases ho
        have e43 : a'.tmps[43]? = some (.pointer (some ⟨B, 0, none⟩)) := hS.tmpSet 1 _ 43 rfl rfl (by simp) (haf ⟨1, .data⟩ (Array.mem_of_getElem? (i := 0) rfl) rfl)
        refine ⟨by simp [Oper.about], _, ?_, .inl rfl⟩
        rw [Oper.semAt_plain _ _ _ (by intro c h; cases h)]
        simp [execOp, e43, go_sem]
      · cases ho
        have e44 : a'.tmps[44]? = some (.pointer (some ⟨B, 0, none⟩)) := hS.tmpSet 2 _ 44 rfl rfl (by simp) (haf ⟨2, .data⟩ (Array.mem_of_getElem? (i := 0) rfl) rfl)
        refine ⟨by simp [Oper.about], _, ?_, .inl rfl⟩
        rw [Oper.semAt_plain _ _ _ (by intro c h; cases h)]
        simp [execOp, e44, kB, go_sem]
      · cases ho
        have e8 : a'.tmps[8]? = some (.pointer (some ⟨w.heap.size + 1 + 1 + 1, 0, none⟩)) := (hS.tmpBase 8 (by kernel_rfl)).trans rfl
        refine ⟨by simp [Oper.about], _, ?_, .inl rfl⟩
        rw [Oper.semAt_plain _ _ _ (by intro c h; cases h)]
        simp [execOp, e8, kN, go_sem]
      · cases ho
        have e8 : a'.tmps[8]? = some (.pointer (some ⟨w.heap.size + 1 + 1 + 1, 0, none⟩)) := (hS.tmpBase 8 (by kernel_rfl)).trans rfl
        refine ⟨by simp [Oper.about], _, ?_, .inl rfl⟩
        rw [Oper.semAt_plain _ _ _ (by intro c h; cases h)]
        simp [execOp, e8, kN, go_sem]
      · cases ho
        have e45 : a'.tmps[45]? = some (.slice a0 len c0) := hS.tmpSet 3 _ 45 rfl rfl (by simp) (haf ⟨3, .data⟩ (Array.mem_of_getElem? (i := 0) rfl) rfl)
        have e46 : a'.tmps[46]? = some (.int .i64 (cnt : Int)) := hS.tmpSet 4 _ 46 rfl rfl (by simp) (haf ⟨4, .data⟩ (Array.mem_of_getElem? (i := 1) rfl) rfl)
        have e47 : a'.tmps[47]? = some (.int .i64 (cnt : Int)) := hS.tmpSet 5 _ 47 rfl rfl (by simp) (haf ⟨5, .data⟩ (Array.mem_of_getElem? (i := 2) rfl) rfl)
        refine ⟨by simp [Oper.about], _, ?_, .inl rfl⟩
        rw [Oper.semAt_plain _ _ _ (by intro c h; cases h)]
        simp [execOp, e45, e46, e47, hs1, go_sem]
      · cases ho
        have e5 : a'.tmps[5]? = some (.pointer (some ⟨w.heap.size + 1, 0, none⟩)) := (hS.tmpBase 5 (by kernel_rfl)).trans rfl
        refine ⟨by simp [Oper.about], _, ?_, .inl rfl⟩
        rw [Oper.semAt_plain _ _ _ (by intro c h; cases h)]
        simp [execOp, e5, kL, go_sem]
      · cases ho
        have e6 : a'.tmps[6]? = some (.pointer (some ⟨w.heap.size + 1 + 1, 0, none⟩)) := (hS.tmpBase 6 (by kernel_rfl)).trans rfl
        refine ⟨by simp [Oper.about], _, ?_, .inl rfl⟩
        rw [Oper.semAt_plain _ _ _ (by intro c h; cases h)]
        simp [execOp, e6, kR, go_sem]
      · cases ho
        have e0 : a'.tmps[0]? = some (.pointer (some ⟨B, 0, none⟩)) := (hS.tmpBase 0 (by kernel_rfl)).trans rfl
        refine ⟨by simp [Oper.about], _, ?_, .inl rfl⟩
        rw [Oper.semAt_plain _ _ _ (by intro c h; cases h)]
        simp [execOp, e0, go_sem]
      · cases ho
        have e51 : a'.tmps[51]? = some (.pointer (some ⟨B, 0, none⟩)) := hS.tmpSet 9 _ 51 rfl rfl (by simp) (haf ⟨9, .data⟩ (Array.mem_of_getElem? (i := 0) rfl) rfl)
        refine ⟨by simp [Oper.about], _, ?_, .inl rfl⟩
        rw [Oper.semAt_plain _ _ _ (by intro c h; cases h)]
        simp [execOp, e51, go_sem]
      · cases ho
        have e52 : a'.tmps[52]? = some (.pointer (some ⟨B, 0, none⟩)) := hS.tmpSet 10 _ 52 rfl rfl (by simp) (haf ⟨10, .data⟩ (Array.mem_of_getElem? (i := 0) rfl) rfl)
        refine ⟨by simp [Oper.about], _, ?_, .inl rfl⟩
        rw [Oper.semAt_plain _ _ _ (by intro c h; cases h)]
        simp [execOp, e52, go_sem]
      · cases ho
        have e53 : a'.tmps[53]? = some (.pointer (some ⟨B, 0, none⟩)) := hS.tmpSet 11 _ 53 rfl rfl (by simp) (haf ⟨11, .data⟩ (Array.mem_of_getElem? (i := 0) rfl) rfl)
        refine ⟨by simp [Oper.about], _, ?_, .inl rfl⟩
        rw [Oper.semAt_plain _ _ _ (by intro c h; cases h)]
        simp [execOp, e53, kB, go_sem]
      · cases ho
        have e8 : a'.tmps[8]? = some (.pointer (some ⟨w.heap.size + 1 + 1 + 1, 0, none⟩)) := (hS.tmpBase 8 (by kernel_rfl)).trans rfl
        refine ⟨by simp [Oper.about], _, ?_, .inl rfl⟩
        rw [Oper.semAt_plain _ _ _ (by intro c h; cases h)]
        simp [execOp, e8, kN, go_sem]
      · cases ho
        have e9 : a'.tmps[9]? = some (.pointer (some ⟨w.heap.size + 1 + 1 + 1 + 1, 0, none⟩)) := (hS.tmpBase 9 (by kernel_rfl)).trans rfl
        refine ⟨by simp [Oper.about], _, ?_, .inl rfl⟩
        rw [Oper.semAt_plain _ _ _ (by intro c h; cases h)]
        simp [execOp, e9, kI, go_sem]
      · cases ho
        have e55 : a'.tmps[55]? = some (.int .i64 (cnt : Int)) := hS.tmpSet 13 _ 55 rfl rfl (by simp) (haf ⟨13, .data⟩ (Array.mem_of_getElem? (i := 0) rfl) rfl)
        have e56 : a'.tmps[56]? = some (.int .i64 (wi : Int)) := hS.tmpSet 14 _ 56 rfl rfl (by simp) (haf ⟨14, .data⟩ (Array.mem_of_getElem? (i := 1) rfl) rfl)
        refine ⟨by simp [Oper.about], _, ?_, .inl rfl⟩
        rw [Oper.semAt_plain _ _ _ (by intro c h; cases h)]
        simp [execOp, e55, e56, hwr, go_sem]
      · cases ho
        have e0 : a'.tmps[0]? = some (.pointer (some ⟨B, 0, none⟩)) := (hS.tmpBase 0 (by kernel_rfl)).trans rfl
        refine ⟨by simp [Oper.about], _, ?_, .inl rfl⟩
        rw [Oper.semAt_plain _ _ _ (by intro c h; cases h)]
        simp [execOp, e0, go_sem]
      · cases ho
        have e58 : a'.tmps[58]? = some (.pointer (some ⟨B, 0, none⟩)) := hS.tmpSet 16 _ 58 rfl rfl (by simp) (haf ⟨16, .data⟩ (Array.mem_of_getElem? (i := 0) rfl) rfl)
        refine ⟨by simp [Oper.about], _, ?_, .inl rfl⟩
        rw [Oper.semAt_plain _ _ _ (by intro c h; cases h)]
        simp [execOp, e58, go_sem]
      · cases ho
        have e59 : a'.tmps[59]? = some (.pointer (some ⟨B, 0, none⟩)) := hS.tmpSet 17 _ 59 rfl rfl (by simp) (haf ⟨17, .data⟩ (Array.mem_of_getElem? (i := 0) rfl) rfl)
        refine ⟨by simp [Oper.about], _, ?_, .inl rfl⟩
        rw [Oper.semAt_plain _ _ _ (by intro c h; cases h)]
        simp [execOp, e59, go_sem]
      · cases ho
        have e60 : a'.tmps[60]? = some (.pointer (some ⟨B, 0, none⟩)) := hS.tmpSet 18 _ 60 rfl rfl (by simp) (haf ⟨18, .data⟩ (Array.mem_of_getElem? (i := 0) rfl) rfl)
        refine ⟨by simp [Oper.about], _, ?_, .inl rfl⟩
        rw [Oper.semAt_plain _ _ _ (by intro c h; cases h)]
        simp [execOp, e60, kB, go_sem]
      · cases ho
        have e61 : a'.tmps[61]? = some (.slice a0 len c0) := hS.tmpSet 19 _ 61 rfl rfl (by simp) (haf ⟨19, .data⟩ (Array.mem_of_getElem? (i := 0) rfl) rfl)
        refine ⟨by simp [Oper.about, resolve, Target.leads, Sem.run_pure], _, ?_, .inl rfl⟩
        rw [Oper.semAt_plain _ _ _ (by intro c h; cases h)]
        simp [execOp, e61, go_sem]
      · cases ho
        have e0 : a'.tmps[0]? = some (.pointer (some ⟨B, 0, none⟩)) := (hS.tmpBase 0 (by kernel_rfl)).trans rfl
        refine ⟨by simp [Oper.about], _, ?_, .inl rfl⟩
        rw [Oper.semAt_plain _ _ _ (by intro c h; cases h)]
        simp [execOp, e0, go_sem]
      · cases ho
        have e63 : a'.tmps[63]? = some (.pointer (some ⟨B, 0, none⟩)) := hS.tmpSet 21 _ 63 rfl rfl (by simp) (haf ⟨21, .data⟩ (Array.mem_of_getElem? (i := 0) rfl) rfl)
        refine ⟨by simp [Oper.about], _, ?_, .inl rfl⟩
        rw [Oper.semAt_plain _ _ _ (by intro c h; cases h)]
        simp [execOp, e63, go_sem]
      · cases ho
        have e64 : a'.tmps[64]? = some (.pointer (some ⟨B, 0, none⟩)) := hS.tmpSet 22 _ 64 rfl rfl (by simp) (haf ⟨22, .data⟩ (Array.mem_of_getElem? (i := 0) rfl) rfl)
        refine ⟨by simp [Oper.about], _, ?_, .inl rfl⟩
        rw [Oper.semAt_plain _ _ _ (by intro c h; cases h)]
        simp [execOp, e64, go_sem]
      · cases ho
        have e65 : a'.tmps[65]? = some (.pointer (some ⟨B, 0, none⟩)) := hS.tmpSet 23 _ 65 rfl rfl (by simp) (haf ⟨23, .data⟩ (Array.mem_of_getElem? (i := 0) rfl) rfl)
        refine ⟨by simp [Oper.about], _, ?_, .inl rfl⟩
        rw [Oper.semAt_plain _ _ _ (by intro c h; cases h)]
        simp [execOp, e65, kB, go_sem]
      · cases ho
        have e66 : a'.tmps[66]? = some (.slice a0 len c0) := hS.tmpSet 24 _ 66 rfl rfl (by simp) (haf ⟨24, .data⟩ (Array.mem_of_getElem? (i := 0) rfl) rfl)
        refine ⟨by simp [Oper.about, resolve, Target.leads, Sem.run_pure], _, ?_, .inl rfl⟩
        rw [Oper.semAt_plain _ _ _ (by intro c h; cases h)]
        simp [execOp, e66, go_sem]
      · cases ho
        have e54 : a'.tmps[54]? = some (.slice a0 len c0) := hS.tmpSet 12 _ 54 rfl rfl (by simp) (haf ⟨12, .data⟩ (Array.mem_of_getElem? (i := 0) rfl) rfl)
        have e57 : a'.tmps[57]? = some (.int .i64 ((cnt : Int) + (wi : Int))) := hS.tmpSet 15 _ 57 rfl rfl (by simp) (haf ⟨15, .data⟩ (Array.mem_of_getElem? (i := 1) rfl) rfl)
        have e62 : a'.tmps[62]? = some (.int .i64 (len : Int)) := hS.tmpSet 20 _ 62 rfl rfl (by simp) (haf ⟨20, .data⟩ (Array.mem_of_getElem? (i := 2) rfl) rfl)
        have e67 : a'.tmps[67]? = some (.int .i64 (len : Int)) := hS.tmpSet 25 _ 67 rfl rfl (by simp) (haf ⟨25, .data⟩ (Array.mem_of_getElem? (i := 3) rfl) rfl)
        refine ⟨by simp [Oper.about], _, ?_, .inl rfl⟩
        rw [Oper.semAt_plain _ _ _ (by intro c h; cases h)]
        simp [execOp, e54, e57, e62, e67, hs2, go_sem]
      · cases ho
        have e48 : a'.tmps[48]? = some (hd) := hS.tmpSet 6 _ 48 rfl rfl (by simp) (haf ⟨6, .data⟩ (Array.mem_of_getElem? (i := 0) rfl) rfl)
        refine ⟨by simp [Oper.about], _, ?_, .inl rfl⟩
        rw [Oper.semAt_plain _ _ _ (by intro c h; cases h)]
        simp [execOp, e48, go_sem]
      · cases ho
        have e5 : a'.tmps[5]? = some (.pointer (some ⟨w.heap.size + 1, 0, none⟩)) := (hS.tmpBase 5 (by kernel_rfl)).trans rfl
        have e49 : a'.tmps[49]? = some (.string l) := hS.tmpSet 7 _ 49 rfl rfl (by simp) (haf ⟨7, .data⟩ (Array.mem_of_getElem? (i := 0) rfl) rfl)
        refine ⟨by simp [Oper.about], _, ?_, .inr ⟨rfl, rfl⟩⟩
        rw [Oper.semAt_plain _ _ _ (by intro c h; cases h)]
        simp [execOp, e5, e49, kL, fL0, sL, go_sem]
      · cases ho
        have e6 : a'.tmps[6]? = some (.pointer (some ⟨w.heap.size + 1 + 1, 0, none⟩)) := (hS.tmpBase 6 (by kernel_rfl)).trans rfl
        have e50 : a'.tmps[50]? = some (.string r) := hS.tmpSet 8 _ 50 rfl rfl (by simp) (haf ⟨8, .data⟩ (Array.mem_of_getElem? (i := 0) rfl) rfl)
        refine ⟨by simp [Oper.about], _, ?_, .inr ⟨rfl, rfl⟩⟩
        rw [Oper.semAt_plain _ _ _ (by intro c h; cases h)]
        simp [execOp, e6, e50, kR, fR0, sR, go_sem]
      · cases ho
        have e68 : a'.tmps[68]? = some (tl) := hS.tmpSet 26 _ 68 rfl rfl (by simp) (haf ⟨26, .data⟩ (Array.mem_of_getElem? (i := 0) rfl) rfl)
        refine ⟨by simp [Oper.about], _, ?_, .inl rfl⟩
        rw [Oper.semAt_plain _ _ _ (by intro c h; cases h)]
        simp [execOp, e68, go_sem]
    case hend =>
      intro _ _
      have q1 := Lib.hid hs1
      have q2 := Lib.hid hs2
      clear hs1 hs2 hwr sL sR
      gi_wp2
      rw [Exit.noGoto_ret]
      have hss := HS.out
      refine ⟨by simp, .inl ⟨_, W.drew.putObj C (.deferred none), rfl, run_takeDeferred (w := W.drew) HK.out, ?_⟩⟩
      refine ⟨.tuple #[hd, .string l, .string r, tl], ?_, cnt, wi, l, r, hd, tl, rfl, hcw, HP.out, hh1, hh2, HB.out.drew.trans (belowK_b (w := w) (Nat.le_refl _) W.drew C _ _ (by omega) HK.out rfl rfl)⟩
      have g1 := cell_kept kL (grownBy_putObj' W.drew C (.deferred none)) (fun r e => by cases e; exact ⟨_, HK.out, rfl⟩)
      have g2 := cell_kept kR (grownBy_putObj' W.drew C (.deferred none)) (fun r e => by cases e; exact ⟨_, HK.out, rfl⟩)
      simp [results, Tryd.f34, go_sem, g1, g2]
end Go.Proofs.YtajbcaggpfopnaaDoor
