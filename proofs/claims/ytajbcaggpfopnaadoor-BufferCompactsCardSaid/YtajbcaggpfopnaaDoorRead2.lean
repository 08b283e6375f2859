/- What is read from a place on: the walk. -/
import Derived.Test.YtajbcaggpfopnaaDoorRead
import Derived.Test.YtajbcaggpfopnaaDoorDet
import Derived.Outline
namespace Go.Proofs.YtajbcaggpfopnaaDoor
open Go Go.RowKit Go.Shelf
attribute [local go_sem] Oper.semAt_some

theorem Tryd.infoU8 : (Tryd.prog.info? 5).map (fun i => (i.zero, i.size, i.bytes)) = some (some (.int .u8 0), 1, 1) := by kernel_rfl

/-- WHAT THE CALL's OWN CELLS HOLD BETWEEN TWO ROUNDS: D has been read. -/
def ReadI (at_ m s : Nat) (W : World) (G : List UInt8 → Prop) : Prop :=
  ∃ D : List UInt8, Boxed W s 3 (.int .i64 (at_ : Int)) ∧ Boxed W (s + 1) 3 (.int .i64 (m : Int)) ∧ Boxed W (s + 1 + 1 + 1) 67 (.slice (some ⟨s + 1 + 1, 0, none⟩) m m) ∧ Boxed W (s + 1 + 1 + 1 + 1) 3 (.int .i64 (D.length : Int)) ∧
    D.length ≤ m ∧ Filled W (s + 1 + 1) m D ∧ G D
theorem readI_own {β : Type} (at_ m s : Nat) (G : β → List UInt8 → Prop) : Own (fun b W => ReadI at_ m s W (G b)) := by
  rintro b X Y row ⟨D, h1, h2, h3, h4, h5, h6, h7⟩ hg hr
  exact ⟨D, boxed_own _ 3 (fun (_ : Unit) => Value.int .i64 (at_ : Int)) () X Y row h1 hg hr, boxed_own _ 3 (fun (_ : Unit) => Value.int .i64 (m : Int)) () X Y row h2 hg hr,
    boxed_own _ 67 (fun (_ : Unit) => Value.slice (some ⟨s + 1 + 1, 0, none⟩) m m) () X Y row h3 hg hr, boxed_own _ 3 (fun (_ : Unit) => Value.int .i64 (D.length : Int)) () X Y row h4 hg hr, h5,
    filled_own (s + 1 + 1) m (fun (_ : Unit) => D) () X Y row h6 hg hr, h7⟩

set_option maxRecDepth 100000 in
set_option maxHeartbeats 2000000 in
/-- p.read(at, n): the n bytes from at on; what lay stays. -/
theorem read_in (F : Fence) (n : Nat) (h29 : F.fn 29) (h33 : F.fn 33) (h38 : F.fn 38) (hro : F.round = none) (hn : 3 ≤ n) (B : Nat) (v : Value) (S : Nat → ByteArray) (len : Nat) (hlen : len ≤ 1000000) (hoff : offs S len ≤ 1000000)
    (w : World) (hB : B < w.heap.size) (cB : w.cell? ⟨B, 0, none⟩ = some v) (hv : Holds w.heap.size w v S len) (at_ m : Nat) (ham : at_ + m ≤ offs S len) :
    CallsIn F n Tryd.prog 29 #[.pointer (some ⟨B, 0, none⟩), .int .i64 (at_ : Int), .int .i64 (m : Int)] w fun e W' => e = .returned (.string ⟨(got S at_ m len).toArray⟩) ∧ Below w.heap.size w W' := by
  have h1 : 1 ≤ n := by omega
  obtain ⟨i0, hi, hz0, hz1, hz2⟩ := info_parts Tryd.infoU8
  have hinfo : (Tryd.prog.info? 5).map (·.size) = some 1 := by rw [hi]; simp [hz1]
  obtain ⟨M, hM⟩ : ∃ M, M = madeCells (Value.int .u8 0).cells (((m : Nat) : Int).toNat * i0.size) := ⟨_, rfl⟩
  have hMs : M.size = m := by rw [hM, size_madeCells, hz1]; simp
  have hmk : ∀ W : World, (Instr.makeSlice 67 (.int .i64 (m : Int)) (.int .i64 (m : Int))).run Tryd.prog W = .ok (.slice (some ⟨W.heap.size, 0, none⟩) m m) (W.alloc (.cells M 5)) := fun W => by
    have h := run_make (P := Tryd.prog) W 67 5 i0 (.int .u8 0) Tryd.underlying67 hi hz0 .i64 .i64 (m : Int) (m : Int) (by omega) (by omega) (by rw [hz2]; omega) (by omega)
    rw [← hM] at h
    simpa using h
  clear hM
  refine callsIn_of_wp_marks Tryd.func29 rfl h29 ?_ hro
  simp only [Tryd.ntmps29, List.size_toArray, List.length_cons, List.length_nil, Nat.reduceAdd, Nat.reduceSub, Array.replicate_succ, Array.replicate_zero, List.push_toArray, List.append_toArray, List.nil_append, List.cons_append]
  gi_wp2
  refine wpIn_scope_straight ?_
  gi_wp2
  refine wpIn_label ?_
  gi_wp2_with (gi_at_call 33; refine (each_in F (n - 1) h33 hro _ _).mono ?_; rintro e w' ⟨rfl, rfl⟩)
  have hB0 : Below w.heap.size w ((((((w.alloc (.cells #[.int .i64 (at_ : Int)] 3)).alloc (.cells #[.int .i64 (m : Int)] 3)).alloc (.cells M 5)).alloc (.cells #[.slice (some ⟨w.heap.size + 1 + 1, 0, none⟩) m m] 67)).alloc (.cells #[.int .i64 0] 3)).alloc (.cells #[.pointer (some ⟨B, 0, none⟩)] 61)) :=
    ((((((Below.refl _ w).alloc (Nat.le_refl _) _).alloc (by simp) _).alloc (by simp; omega) _).alloc (by simp; omega) _).alloc (by simp; omega) _).alloc (by simp; omega) _
  have bA := (((((Boxed.new w 3 (.int .i64 (at_ : Int))).alloc (.cells #[.int .i64 (m : Int)] 3)).alloc (.cells M 5)).alloc (.cells #[.slice (some ⟨w.heap.size + 1 + 1, 0, none⟩) m m] 67)).alloc (.cells #[.int .i64 0] 3)).alloc (.cells #[.pointer (some ⟨B, 0, none⟩)] 61)
  have bN := ((((Boxed.new (w.alloc (.cells #[.int .i64 (at_ : Int)] 3)) 3 (.int .i64 (m : Int))).alloc (.cells M 5)).alloc (.cells #[.slice (some ⟨w.heap.size + 1 + 1, 0, none⟩) m m] 67)).alloc (.cells #[.int .i64 0] 3)).alloc (.cells #[.pointer (some ⟨B, 0, none⟩)] 61)
  have fO : Filled ((((((w.alloc (.cells #[.int .i64 (at_ : Int)] 3)).alloc (.cells #[.int .i64 (m : Int)] 3)).alloc (.cells M 5)).alloc (.cells #[.slice (some ⟨w.heap.size + 1 + 1, 0, none⟩) m m] 67)).alloc (.cells #[.int .i64 0] 3)).alloc (.cells #[.pointer (some ⟨B, 0, none⟩)] 61)) (w.heap.size + 1 + 1) m [] := by
    refine ⟨M, ?_, hMs, by simp [Lib.byteCells]⟩
    rw [Below.heap_alloc _ _ _ (by simp), Below.heap_alloc _ _ _ (by simp), Below.heap_alloc _ _ _ (by simp)]
    have := World.alloc_heap_new ((w.alloc (.cells #[.int .i64 (at_ : Int)] 3)).alloc (.cells #[.int .i64 (m : Int)] 3)) (.cells M 5)
    simpa using this
  have bU := ((Boxed.new (((w.alloc (.cells #[.int .i64 (at_ : Int)] 3)).alloc (.cells #[.int .i64 (m : Int)] 3)).alloc (.cells M 5)) 67 (.slice (some ⟨w.heap.size + 1 + 1, 0, none⟩) m m)).alloc (.cells #[.int .i64 0] 3)).alloc (.cells #[.pointer (some ⟨B, 0, none⟩)] 61)
  have bD := (Boxed.new ((((w.alloc (.cells #[.int .i64 (at_ : Int)] 3)).alloc (.cells #[.int .i64 (m : Int)] 3)).alloc (.cells M 5)).alloc (.cells #[.slice (some ⟨w.heap.size + 1 + 1, 0, none⟩) m m] 67)) 3 (.int .i64 0)).alloc (.cells #[.pointer (some ⟨B, 0, none⟩)] 61)
  have bP := Boxed.new (((((w.alloc (.cells #[.int .i64 (at_ : Int)] 3)).alloc (.cells #[.int .i64 (m : Int)] 3)).alloc (.cells M 5)).alloc (.cells #[.slice (some ⟨w.heap.size + 1 + 1, 0, none⟩) m m] 67)).alloc (.cells #[.int .i64 0] 3)) 61 (.pointer (some ⟨B, 0, none⟩))
  have hsz : ((((((w.alloc (.cells #[.int .i64 (at_ : Int)] 3)).alloc (.cells #[.int .i64 (m : Int)] 3)).alloc (.cells M 5)).alloc (.cells #[.slice (some ⟨w.heap.size + 1 + 1, 0, none⟩) m m] 67)).alloc (.cells #[.int .i64 0] 3)).alloc (.cells #[.pointer (some ⟨B, 0, none⟩)] 61)).heap.size = w.heap.size + 6 := by simp
  simp only [World.size_alloc] at bN bU bD bP
  obtain ⟨W0, hW0⟩ : ∃ W0, (((((w.alloc (.cells #[.int .i64 (at_ : Int)] 3)).alloc (.cells #[.int .i64 (m : Int)] 3)).alloc (.cells M 5)).alloc (.cells #[.slice (some ⟨w.heap.size + 1 + 1, 0, none⟩) m m] 67)).alloc (.cells #[.int .i64 0] 3)).alloc (.cells #[.pointer (some ⟨B, 0, none⟩)] 61) = W0 := ⟨_, rfl⟩
  rw [hW0] at bA bN fO bU bD bP hB0 hsz ⊢
  clear hW0
  refine wpIn_rangeFunc_ownH hro h1 (gf := 38) (lb := #[.pointer (some ⟨w.heap.size + 1 + 1 + 1 + 1 + 1, 0, none⟩)]) rfl h38 (enters_of Tryd.func38 (by kernel_rfl) rfl)
    (each_stops F (n - 1) h38 hro (by omega) (w.heap.size + 1 + 1 + 1 + 1 + 1) w.heap.size W0.heap.size B v S len hlen hoff W0 (by omega) (Nat.le_refl _) (by omega) bP.cell hB ((hB0.cell (p := ⟨B, 0, none⟩) hB).trans cB) (hv.below hB0 (Nat.le_refl _))) keeps_t (keeps_b (by omega)) (Below.refl _ _) (fun _ => rfl)
    (fun pre W => ReadI at_ m w.heap.size W (fun D => InOrder pre → D = got S at_ m pre.length) ∧ Below w.heap.size w W)
    (fun c pre W => (c = .exit 0 ∧ ReadI at_ m w.heap.size W (fun D => D.length = m ∧ (InOrder pre → D = got S at_ m (pre.length - 1)))) ∧ Below w.heap.size w W)
    (OwnFrom.and (Own.from (readI_own at_ m w.heap.size (fun pre D => InOrder pre → D = got S at_ m pre.length)) _) (ownFrom_below (Nat.le_refl _) (by omega)))
    (fun c => OwnFrom.and (Own.from (fun s X Y row hs hg hr => ⟨hs.1, readI_own at_ m w.heap.size (fun (pre : List (Ix len)) D => D.length = m ∧ (InOrder pre → D = got S at_ m (pre.length - 1))) s X Y row hs.2 hg hr⟩) _) (ownFrom_below (Nat.le_refl _) (by omega)))
    ⟨⟨[], bA, bN, bU, bD, Nat.zero_le _, fO, fun _ => by simp [got, txt]⟩, hB0⟩
    (fun x a' W => ∃ Bx, w.heap.size + 4 < Bx ∧ Boxed W Bx 51 (.string (S x.1)) ∧ a' = { tmps := #[.pointer (some ⟨B, 0, none⟩), .int .i64 (at_ : Int), .int .i64 (m : Int), undef, .pointer (some ⟨w.heap.size, 0, none⟩), .pointer (some ⟨w.heap.size + 1, 0, none⟩), .string ⟨#[]⟩, .pointer (some ⟨w.heap.size + 1 + 1 + 1, 0, none⟩), .pointer (some ⟨w.heap.size + 1 + 1 + 1 + 1, 0, none⟩), .int .i64 (offs S x.1 : Int), .pointer (some ⟨Bx, 0, none⟩), .int .i64 (m : Int), .slice (some ⟨w.heap.size + 1 + 1, 0, none⟩) m m, .pointer (some ⟨B, 0, none⟩), .func (.func 38) #[] #[.pointer (some ⟨w.heap.size + 1 + 1 + 1 + 1 + 1, 0, none⟩)], .int .i64 (offs S x.1 : Int), .agg #[.string (S x.1)], undef, undef, undef, undef, undef, undef, undef, undef, undef, undef, undef, undef, undef, undef, undef, undef, undef, undef, undef, undef, undef, undef, undef, undef, undef, undef, undef], defers := [] })
    (fun x a' _ X Y row hs hg hr => by obtain ⟨Bx, h1, h2, h3⟩ := hs; exact ⟨Bx, h1, boxed_own Bx 51 (fun (_ : Unit) => Value.string (S x.1)) () X Y row h2 hg (fun r e => (hr r e).2), h3⟩)
    ?assign ?body ?done ?stop
  case assign =>
    rintro l pre x W K ⟨hI, hB1⟩ hK
    dsimp only [encP]
    gi_wp2
    have hs := hB1.size
    have hlt : w.heap.size + 4 < W.heap.size := by obtain ⟨D, _, _, _, bD1, _⟩ := hI; exact bD1.lt
    exact hK _ _ ((KeepsOthers.alloc _ _).from _) (Keeps.alloc W hs _) ⟨readI_own at_ m w.heap.size (fun (pre : List (Ix len)) D => InOrder pre → D = got S at_ m pre.length) pre _ _ none hI (World.grownBy_alloc W _ none) (fun r e => by cases e), hB1.alloc hs _⟩ ⟨W.heap.size, hlt, Boxed.new W 51 _, rfl⟩
  case body =>
    rintro l pre x a' W hl ⟨r, hr⟩ ⟨⟨D, bA1, bN1, bU1, bD1, hDm, fO1, hin⟩, hB1⟩ ⟨Bx, hBx, bX, rfl⟩ hlt
    have hok : offs S x.1 + (S x.1).size ≤ 1000000 := Nat.le_trans (offs_mono S (show x.1 + 1 ≤ len from x.2)) hoff
    have cX := bX.cell
    have cA := bA1.cell
    have cN := bN1.cell
    have cU := bU1.cell
    have cD := bD1.cell
    have fD := bD1.frozen
    have HB1 := Lib.hid hB1.size
    have HSZ := Lib.hid hsz
    clear hlt hr hsz
    by_cases hdone : D.length = m
    · have hb : ((D.length : Int) == (m : Int)) = true := by simp [hdone]
      have HIN := Lib.hid hin
      have HD := Lib.hid hdone
      clear hdone hin
      gi_wp2
      exact ⟨KeepsFrom.refl _ _, ⟨rfl, D, bA1, bN1, bU1, bD1, hDm, fO1, HD.out, fun h => by rw [inOrder_snoc] at h; rw [HIN.out h.1, List.length_append]; rfl⟩, hB1⟩
    · have hb : ((D.length : Int) == (m : Int)) = false := by simp; omega
      have hlt : D.length < m := by omega
      clear hdone
      have HIN := Lib.hid hin
      clear hin
      by_cases hgt : at_ < offs S x.1 + (S x.1).size
      · have hgt' : (at_ : Int) < (offs S x.1 : Int) + ((S x.1).size : Int) := by omega
        obtain ⟨Y, hY1, hY2, hY3⟩ := fO1
        obtain ⟨d, hd⟩ : ∃ d, d = at_ - offs S x.1 := ⟨_, rfl⟩
        obtain ⟨E, hE⟩ : ∃ E, E = (S x.1).extract d (S x.1).size := ⟨_, rfl⟩
        obtain ⟨c, hc⟩ : ∃ c, c = min E.size (m - D.length) := ⟨_, rfl⟩
        have hmax : (if (at_ : Int) - (offs S x.1 : Int) < 0 then (0 : Int) else (at_ : Int) - (offs S x.1 : Int)) = (d : Int) := by split <;> omega
        obtain ⟨W2, hW2⟩ : ∃ W2, W2 = W.drew.setRow (w.heap.size + 1 + 1) (Y.toList.take D.length ++ Lib.byteCells (E.data.toList.take c) ++ Y.toList.drop (D.length + c)).toArray := ⟨_, rfl⟩
        obtain ⟨wd, hwd⟩ : ∃ wd : Array Bool → World, wd = fun listed => if listed.getD 13 false then W2.setCell ⟨w.heap.size + 1 + 1 + 1 + 1, 0, none⟩ (.int .i64 ((D.length : Int) + (c : Int))) else if listed.getD 11 false then W2 else W.drew := ⟨_, rfl⟩
        gi_wp2
        have hO1 : W.drew.heap[w.heap.size + 1 + 1]? = some (.cells Y 5 (0, 0)) := hY1
        have hoth : ∀ k, k ≠ w.heap.size + 1 + 1 → W2.heap[k]? = W.heap[k]? := fun k hk => by rw [hW2]; exact setRow_other _ _ _ _ (by omega)
        have hcl1 : ∀ a : Addr, a.block ≠ w.heap.size + 1 + 1 → W2.cell? a = W.cell? a := fun a ha => World.cell?_of_block (hoth a.block ha)
        have hfl1 : ∀ a : Addr, a.block ≠ w.heap.size + 1 + 1 → W2.frozen? a = W.frozen? a := fun a ha => World.frozen?_of_block (hoth a.block ha)
        have hcd : ∀ (listed : Array Bool), listed.getD 13 false = false → ∀ a : Addr, a.block ≠ w.heap.size + 1 + 1 → (wd listed).cell? a = W.cell? a := fun listed h13 a ha => by
          rw [hwd]; simp only [h13, Bool.false_eq_true, if_false]; split
          · exact hcl1 a ha
          · rfl
        have hne : ¬ m = D.length := by omega
        have hwr1 : IntKind.i64.wrap ((at_ : Int) - (offs S x.1 : Int)) = (at_ : Int) - (offs S x.1 : Int) := by rw [IntKind.wrap_i64]; omega
        have hwr2 : IntKind.i64.wrap ((D.length : Int) + (c : Int)) = (D.length : Int) + (c : Int) := by rw [IntKind.wrap_i64]; omega
        have hdle : ¬ (S x.1).size < d := by omega
        have hlc : (E.data.toList.take c).length = c := by rw [List.length_take, ← Lib.size_eq]; omega
        have hcp := run_copy_part (P := Tryd.prog) W.drew 67 9 3 5 (w.heap.size + 1 + 1) D.length (m - D.length) (m - D.length) E Y 5 c hc Tryd.underlying67 hinfo hO1 (by rw [hY2]; omega)
        rw [← hW2] at hcp
        have hfill := Filled.more (E := E.data.toList.take c) hO1 hY2 hY3 (by rw [hlc]; omega)
        rw [hlc, ← hW2] at hfill
        clear hinfo hmk hz0 hz1 hz2 hi hMs M hB0 bP hv hlen h33 h38 h29 cB hB
        refine wpIn_region_det (by kernel_rfl) (by kernel_rfl) (fun i => [Value.int .i64 (D.length : Int), .slice (some ⟨w.heap.size + 1 + 1, 0, none⟩) m m, .int .i64 (D.length : Int), .slice (some ⟨w.heap.size + 1 + 1, D.length, none⟩) (m - D.length) (m - D.length), .pointer (some ⟨Bx, 0, none⟩), .string (S x.1), .int .i64 (at_ : Int), .int .i64 (offs S x.1 : Int), .int .i64 ((at_ : Int) - (offs S x.1 : Int)), .int .i64 (d : Int), .string E, .int .i64 (c : Int), .int .i64 ((D.length : Int) + (c : Int)), undef].getD i undef) wd (by rw [hwd]; rfl) ?hstep ?hend
        case hstep =>
          intro i o listed a' ho hsz hu haf hcl hS
          have hnx : ∀ i, i < 14 → i ≠ 11 → i ≠ 13 → wd (listed.setIfInBounds i true) = wd listed := fun i hi h1 h2 => by
            rw [hwd]
            simp only []
            rw [getD_set _ _ _ _ (by rw [hsz]; exact hi), getD_set _ _ _ _ (by rw [hsz]; exact hi), if_neg h1, if_neg h2]
          have hi : i < 14 := (Array.getElem?_eq_some_iff.1 ho).1
          obtain rfl | rfl | rfl | rfl | rfl | rfl | rfl | rfl | rfl | rfl | rfl | rfl | rfl | rfl : i = 0 ∨ i = 1 ∨ i = 2 ∨ i = 3 ∨ i = 4 ∨ i = 5 ∨ i = 6 ∨ i = 7 ∨ i = 8 ∨ i = 9 ∨ i = 10 ∨ i = 11 ∨ i = 12 ∨ i = 13 := by omega
          · cases ho
            have h13 : listed.getD 13 false = false := Bool.eq_false_iff.2 fun h => by have := hcl 13 _ rfl h ⟨0, .phase⟩ (Array.mem_of_getElem? (i := 2) rfl) rfl; rw [hu] at this; cases this
            have e8 : a'.tmps[8]? = some (.pointer (some ⟨w.heap.size + 1 + 1 + 1 + 1, 0, none⟩)) := (hS.tmpBase 8 (by kernel_rfl)).trans rfl
            have hk := hcd listed h13 ⟨w.heap.size + 1 + 1 + 1 + 1, 0, none⟩ (by dsimp only; omega)
            rw [cD] at hk
            rw [hnx 0 (by omega) (by omega) (by omega)]
            refine ⟨by simp [Oper.about], _, ?_, .inl rfl⟩
            rw [Oper.semAt_plain _ _ _ (by intro c h; cases h)]
            simp [execOp, e8, hk, go_sem]
          · cases ho
            have h13 : listed.getD 13 false = false := Bool.eq_false_iff.2 fun h => by have := hcl 13 _ rfl h ⟨1, .phase⟩ (Array.mem_of_getElem? (i := 3) rfl) rfl; rw [hu] at this; cases this
            have e7 : a'.tmps[7]? = some (.pointer (some ⟨w.heap.size + 1 + 1 + 1, 0, none⟩)) := (hS.tmpBase 7 (by kernel_rfl)).trans rfl
            have hk := hcd listed h13 ⟨w.heap.size + 1 + 1 + 1, 0, none⟩ (by dsimp only; omega)
            rw [cU] at hk
            rw [hnx 1 (by omega) (by omega) (by omega)]
            refine ⟨by simp [Oper.about], _, ?_, .inl rfl⟩
            rw [Oper.semAt_plain _ _ _ (by intro c h; cases h)]
            simp [execOp, e7, hk, go_sem]
          · cases ho
            have h13 : listed.getD 13 false = false := Bool.eq_false_iff.2 fun h => by have := hcl 13 _ rfl h ⟨2, .phase⟩ (Array.mem_of_getElem? (i := 4) rfl) rfl; rw [hu] at this; cases this
            have e8 : a'.tmps[8]? = some (.pointer (some ⟨w.heap.size + 1 + 1 + 1 + 1, 0, none⟩)) := (hS.tmpBase 8 (by kernel_rfl)).trans rfl
            have hk := hcd listed h13 ⟨w.heap.size + 1 + 1 + 1 + 1, 0, none⟩ (by dsimp only; omega)
            rw [cD] at hk
            rw [hnx 2 (by omega) (by omega) (by omega)]
            refine ⟨by simp [Oper.about], _, ?_, .inl rfl⟩
            rw [Oper.semAt_plain _ _ _ (by intro c h; cases h)]
            simp [execOp, e8, hk, go_sem]
          · cases ho
            have e30 : a'.tmps[30]? = some (.slice (some ⟨w.heap.size + 1 + 1, 0, none⟩) m m) := hS.tmpSet 1 _ 30 rfl rfl (by simp) (haf ⟨1, .data⟩ (Array.mem_of_getElem? (i := 0) rfl) rfl)
            have e31 : a'.tmps[31]? = some (.int .i64 (D.length : Int)) := hS.tmpSet 2 _ 31 rfl rfl (by simp) (haf ⟨2, .data⟩ (Array.mem_of_getElem? (i := 1) rfl) rfl)
            rw [hnx 3 (by omega) (by omega) (by omega)]
            refine ⟨by simp [Oper.about], _, ?_, .inl rfl⟩
            rw [Oper.semAt_plain _ _ _ (by intro c h; cases h)]
            simp [execOp, e30, e31, hDm, hne, go_sem]
          · cases ho
            have e10 : a'.tmps[10]? = some (.pointer (some ⟨Bx, 0, none⟩)) := (hS.tmpBase 10 (by kernel_rfl)).trans rfl
            rw [hnx 4 (by omega) (by omega) (by omega)]
            refine ⟨by simp [Oper.about], _, ?_, .inl rfl⟩
            rw [Oper.semAt_plain _ _ _ (by intro c h; cases h)]
            simp [execOp, e10, go_sem]
          · cases ho
            have h13 : listed.getD 13 false = false := Bool.eq_false_iff.2 fun h => by have := hcl 13 _ rfl h ⟨5, .phase⟩ (Array.mem_of_getElem? (i := 7) rfl) rfl; rw [hu] at this; cases this
            have e33 : a'.tmps[33]? = some (.pointer (some ⟨Bx, 0, none⟩)) := hS.tmpSet 4 _ 33 rfl rfl (by simp) (haf ⟨4, .data⟩ (Array.mem_of_getElem? (i := 0) rfl) rfl)
            have hk := hcd listed h13 ⟨Bx, 0, none⟩ (by dsimp only; omega)
            rw [cX] at hk
            rw [hnx 5 (by omega) (by omega) (by omega)]
            refine ⟨by simp [Oper.about], _, ?_, .inl rfl⟩
            rw [Oper.semAt_plain _ _ _ (by intro c h; cases h)]
            simp [execOp, e33, hk, go_sem]
          · cases ho
            have h13 : listed.getD 13 false = false := Bool.eq_false_iff.2 fun h => by have := hcl 13 _ rfl h ⟨6, .phase⟩ (Array.mem_of_getElem? (i := 8) rfl) rfl; rw [hu] at this; cases this
            have e4 : a'.tmps[4]? = some (.pointer (some ⟨w.heap.size, 0, none⟩)) := (hS.tmpBase 4 (by kernel_rfl)).trans rfl
            have hk := hcd listed h13 ⟨w.heap.size, 0, none⟩ (by dsimp only; omega)
            rw [cA] at hk
            rw [hnx 6 (by omega) (by omega) (by omega)]
            refine ⟨by simp [Oper.about], _, ?_, .inl rfl⟩
            rw [Oper.semAt_plain _ _ _ (by intro c h; cases h)]
            simp [execOp, e4, hk, go_sem]
          · cases ho
            have e9 : a'.tmps[9]? = some (.int .i64 (offs S x.1 : Int)) := (hS.tmpBase 9 (by kernel_rfl)).trans rfl
            rw [hnx 7 (by omega) (by omega) (by omega)]
            refine ⟨by simp [Oper.about], _, ?_, .inl rfl⟩
            rw [Oper.semAt_plain _ _ _ (by intro c h; cases h)]
            simp [execOp, e9, go_sem]
          · cases ho
            have e35 : a'.tmps[35]? = some (.int .i64 (at_ : Int)) := hS.tmpSet 6 _ 35 rfl rfl (by simp) (haf ⟨6, .data⟩ (Array.mem_of_getElem? (i := 0) rfl) rfl)
            have e36 : a'.tmps[36]? = some (.int .i64 (offs S x.1 : Int)) := hS.tmpSet 7 _ 36 rfl rfl (by simp) (haf ⟨7, .data⟩ (Array.mem_of_getElem? (i := 1) rfl) rfl)
            rw [hnx 8 (by omega) (by omega) (by omega)]
            refine ⟨by simp [Oper.about], _, ?_, .inl rfl⟩
            rw [Oper.semAt_plain _ _ _ (by intro c h; cases h)]
            simp [execOp, e35, e36, hwr1, go_sem]
          · cases ho
            have e37 : a'.tmps[37]? = some (.int .i64 ((at_ : Int) - (offs S x.1 : Int))) := hS.tmpSet 8 _ 37 rfl rfl (by simp) (haf ⟨8, .data⟩ (Array.mem_of_getElem? (i := 0) rfl) rfl)
            rw [hnx 9 (by omega) (by omega) (by omega)]
            refine ⟨by simp [Oper.about, resolve, Target.leads, Sem.run_pure], _, ?_, .inl rfl⟩
            rw [Oper.semAt_plain _ _ _ (by intro c h; cases h)]
            simp [execOp, e37, hmax, go_sem]
          · cases ho
            have e34 : a'.tmps[34]? = some (.string (S x.1)) := hS.tmpSet 5 _ 34 rfl rfl (by simp) (haf ⟨5, .data⟩ (Array.mem_of_getElem? (i := 0) rfl) rfl)
            have e38 : a'.tmps[38]? = some (.int .i64 (d : Int)) := hS.tmpSet 9 _ 38 rfl rfl (by simp) (haf ⟨9, .data⟩ (Array.mem_of_getElem? (i := 1) rfl) rfl)
            rw [hnx 10 (by omega) (by omega) (by omega)]
            refine ⟨by simp [Oper.about], _, ?_, .inl rfl⟩
            rw [Oper.semAt_plain _ _ _ (by intro c h; cases h)]
            simp [execOp, e34, e38, hE, hdle, go_sem]
          · cases ho
            have h13 : listed.getD 13 false = false := Bool.eq_false_iff.2 fun h => by have := hcl 13 _ rfl h ⟨11, .phase⟩ (Array.mem_of_getElem? (i := 13) rfl) rfl; rw [hu] at this; cases this
            have e32 : a'.tmps[32]? = some (.slice (some ⟨w.heap.size + 1 + 1, D.length, none⟩) (m - D.length) (m - D.length)) := hS.tmpSet 3 _ 32 rfl rfl (by simp) (haf ⟨3, .data⟩ (Array.mem_of_getElem? (i := 0) rfl) rfl)
            have e39 : a'.tmps[39]? = some (.string E) := hS.tmpSet 10 _ 39 rfl rfl (by simp) (haf ⟨10, .data⟩ (Array.mem_of_getElem? (i := 1) rfl) rfl)
            have hw0 : wd listed = W.drew := by rw [hwd]; simp only [h13, hu, Bool.false_eq_true, if_false]
            have hw1 : wd (listed.setIfInBounds 11 true) = W2 := by rw [hwd]; simp only []; rw [getD_set _ _ _ _ (by rw [hsz]; exact (by decide : 11 < 14)), getD_set _ _ _ _ (by rw [hsz]; exact (by decide : 11 < 14))]; simp [h13]
            rw [hw0, hw1]
            refine ⟨by simp [Oper.about, resolve, Target.leads, Sem.run_pure], _, ?_, .inl rfl⟩
            rw [Oper.semAt_plain _ _ _ (by intro c h; cases h)]
            simp [execOp, resolve, invoke, builtin, e32, e39, hcp, goInt, go_sem]
          · cases ho
            have e29 : a'.tmps[29]? = some (.int .i64 (D.length : Int)) := hS.tmpSet 0 _ 29 rfl rfl (by simp) (haf ⟨0, .data⟩ (Array.mem_of_getElem? (i := 0) rfl) rfl)
            have e40 : a'.tmps[40]? = some (.int .i64 (c : Int)) := hS.tmpSet 11 _ 40 rfl rfl (by simp) (haf ⟨11, .data⟩ (Array.mem_of_getElem? (i := 1) rfl) rfl)
            rw [hnx 12 (by omega) (by omega) (by omega)]
            refine ⟨by simp [Oper.about], _, ?_, .inl rfl⟩
            rw [Oper.semAt_plain _ _ _ (by intro c h; cases h)]
            simp [execOp, e29, e40, hwr2, go_sem]
          · cases ho
            have e8 : a'.tmps[8]? = some (.pointer (some ⟨w.heap.size + 1 + 1 + 1 + 1, 0, none⟩)) := (hS.tmpBase 8 (by kernel_rfl)).trans rfl
            have e41 : a'.tmps[41]? = some (.int .i64 ((D.length : Int) + (c : Int))) := hS.tmpSet 12 _ 41 rfl rfl (by simp) (haf ⟨12, .data⟩ (Array.mem_of_getElem? (i := 0) rfl) rfl)
            have h11 : listed.getD 11 false = true := haf ⟨11, .chain⟩ (Array.mem_of_getElem? (i := 1) rfl) rfl
            have hw0 : wd listed = W2 := by rw [hwd]; simp only [h11, hu, Bool.false_eq_true, if_false, if_true]
            have hw1 : wd (listed.setIfInBounds 13 true) = W2.setCell ⟨w.heap.size + 1 + 1 + 1 + 1, 0, none⟩ (.int .i64 ((D.length : Int) + (c : Int))) := by rw [hwd]; simp only []; rw [getD_set _ _ _ _ (by rw [hsz]; exact (by decide : 13 < 14))]; simp
            have k1 := hcl1 ⟨w.heap.size + 1 + 1 + 1 + 1, 0, none⟩ (by dsimp only; omega)
            have k2 := hfl1 ⟨w.heap.size + 1 + 1 + 1 + 1, 0, none⟩ (by dsimp only; omega)
            rw [cD] at k1
            rw [fD] at k2
            rw [hw0, hw1]
            refine ⟨by simp [Oper.about], _, ?_, .inr ⟨rfl, rfl⟩⟩
            rw [Oper.semAt_plain _ _ _ (by intro c h; cases h)]
            simp [execOp, e8, e41, k1, k2, go_sem]
        case hend =>
          intro listed hall
          have hw3 : wd listed = W2.setCell ⟨w.heap.size + 1 + 1 + 1 + 1, 0, none⟩ (.int .i64 ((D.length : Int) + (c : Int))) := by rw [hwd]; simp only [hall 13 (by decide), if_true]
          rw [hw3]
          have hgr : W.grownBy W2 (some (w.heap.size + 1 + 1)) := by
            rw [hW2]
            exact ⟨rfl, rfl, rfl, by rw [size_setRow]; exact Nat.le_refl _, fun k _ hk => setRow_other _ _ _ _ (fun e => hk (by rw [e]))⟩
          have hss := HSZ.out
          have hko : KeepsOthers W W2 := KeepsOthers.of_grownBy hgr (fun j o ej hj => by cases ej; rw [hY1] at hj; cases hj; rfl)
          have hkp : Keeps w.heap.size W0.heap.size W W2 := Keeps.grown hgr HB1.out (by omega) (by omega)
          have hE' : E.data.toList = (S x.1).data.toList.drop d := by rw [hE, Lib.extract_data, List.take_of_length_le (by rw [List.length_drop, ← Lib.size_eq]; exact Nat.le_refl _)]
          have key : ReadI at_ m w.heap.size (W2.setCell ⟨w.heap.size + 1 + 1 + 1 + 1, 0, none⟩ (.int .i64 ((D.length : Int) + (c : Int)))) (fun D => InOrder (pre ++ [x]) → D = got S at_ m (pre ++ [x]).length) := by
            have bD2 : Boxed W2 (w.heap.size + 1 + 1 + 1 + 1) 3 (.int .i64 (D.length : Int)) := (hoth _ (by omega)).trans bD1
            refine ⟨D ++ E.data.toList.take c, Boxed.other ((hoth _ (by omega)).trans bA1) (by omega) _, Boxed.other ((hoth _ (by omega)).trans bN1) (by omega) _, Boxed.other ((hoth _ (by omega)).trans bU1) (by omega) _, ?_, ?_, hfill.kept (Below.heap_setCell _ _ _ _ (by dsimp only; omega)), ?_⟩
            · rw [List.length_append, hlc]
              exact bD2.set _
            · rw [List.length_append, hlc]; omega
            · intro h
              rw [inOrder_snoc] at h
              have h2 := HIN.out h.1
              rw [List.length_append, List.length_singleton, got_next S d (by rw [← h.2]; exact hd), ← h2, ← h.2, ← hE', hc, Lib.size_eq E, Nat.min_comm, ← List.take_eq_take_min]
          exact ⟨(hko.trans (KeepsOthers.setCell _ _ _)).from _, hkp.trans (Keeps.setCell W2 (p := ⟨w.heap.size + 1 + 1 + 1 + 1, 0, none⟩) (by dsimp only; omega) (by dsimp only; omega) _), key, (hB1.trans hkp.below).setCell (p := ⟨w.heap.size + 1 + 1 + 1 + 1, 0, none⟩) (by dsimp only; omega) _⟩
      · have hgt' : ¬ (at_ : Int) < (offs S x.1 : Int) + ((S x.1).size : Int) := by omega
        gi_wp2
        refine ⟨KeepsFrom.refl _ _, Keeps.refl _ _ _, ⟨D, bA1, bN1, bU1, bD1, hDm, fO1, fun h => ?_⟩, hB1⟩
        rw [inOrder_snoc] at h
        rw [HIN.out h.1, List.length_append, ← h.2, List.length_singleton, got_skip S (by omega)]
  case done =>
    rintro C zs W hD hz ⟨⟨D, bA1, bN1, bU1, bD1, hDm, fO1, hin⟩, hB1⟩ hK
    obtain ⟨hi1, hi2⟩ := inOrder_of hz
    have hD1 : D = got S at_ m len := by rw [hin hi1, hi2]
    have hl : D.length = m := by rw [hD1, got_len]; omega
    have hcv := run_convert_bytes_back (P := Tryd.prog) W 67 9 5 ⟨w.heap.size + 1 + 1, 0, none⟩ m D Tryd.underlying67 Tryd.underlying5 Tryd.underlying9 (fun j hj => by
      have := fO1.cell j hj
      have e : (⟨w.heap.size + 1 + 1, 0, none⟩ : Addr).add j = ⟨w.heap.size + 1 + 1, j, none⟩ := by unfold Addr.add; split <;> simp_all
      rw [e]; exact this)
    rw [hl, hD1] at hcv
    have cU := bU1.cell
    have HB := Lib.hid hB1
    have HK := Lib.hid hK
    have HS := Lib.hid hsz
    clear hz hin hi2 hi1 hD1 hl hsz hB1 hK
    gi_wp2
    rw [Exit.noGoto_ret]
    have hss := HS.out
    refine ⟨by simp, .inl ⟨_, _, rfl, run_takeDeferred HK.out, ?_⟩⟩
    exact ⟨_, results_tmp rfl _ _ _, rfl, HB.out.trans (belowK_b (w := w) (Nat.le_refl _) W C _ _ (by omega) HK.out rfl rfl)⟩
  case stop =>
    rintro C c pre W hD ⟨k, hk, hz⟩ ⟨⟨rfl, D, bA1, bN1, bU1, bD1, hDm, fO1, hl, hin⟩, hB1⟩ hK
    obtain ⟨hi1, hi2⟩ := inOrder_of hz
    have hD1 : D = got S at_ m len := by
      have h2 := hin hi1
      rw [h2] at hl ⊢
      exact got_full S (by omega) hl
    have hcv := run_convert_bytes_back (P := Tryd.prog) W 67 9 5 ⟨w.heap.size + 1 + 1, 0, none⟩ m D Tryd.underlying67 Tryd.underlying5 Tryd.underlying9 (fun j hj => by
      have := fO1.cell j hj
      have e : (⟨w.heap.size + 1 + 1, 0, none⟩ : Addr).add j = ⟨w.heap.size + 1 + 1, j, none⟩ := by unfold Addr.add; split <;> simp_all
      rw [e]; exact this)
    rw [hl, hD1] at hcv
    have cU := bU1.cell
    have HB := Lib.hid hB1
    have HK := Lib.hid hK
    have HS := Lib.hid hsz
    clear hz hin hi2 hi1 hD1 hl hsz hB1 hK
    gi_wp2
    rw [Exit.noGoto_ret]
    have hss := HS.out
    refine ⟨by simp, .inl ⟨_, _, rfl, run_takeDeferred HK.out, ?_⟩⟩
    exact ⟨_, results_tmp rfl _ _ _, rfl, HB.out.trans (belowK_b (w := w) (Nat.le_refl _) W C _ _ (by omega) HK.out rfl rfl)⟩
end Go.Proofs.YtajbcaggpfopnaaDoor
