/- A splice. A splice that is done. A new lexer. -/
import Derived.Test.YtdgffpcbpilkcaaGreatDoorRyB
import Derived.Test.YtdgffpcbpilkcaaGreatDoorRyC
import Derived.Deep.RegionHeldLaw
import Derived.Laws.MakeOwn
/- A splice. -/
namespace Go.Proofs.YtdgffpcbpilkcaaGreatDoor
open Go Go.RowKit Go.Shelf
attribute [local go_sem] Oper.semAt_some

/-- l.put(c, list...). -/
theorem put_c (W : World) (base X b cap : Nat) (n : Int) (E E2 : List Ln) (v2 : Value) (F O base2 : Nat)
    (hX : Row W X 65 #[.slice (some ⟨b, 0, none⟩) E.length cap, .int .i64 n])
    (hE : OwnE W base (.slice (some ⟨b, 0, none⟩) E.length cap) E) (h2 : OwnE W base2 v2 E2) (hO : 1 ≤ O) (hF : F + O ≤ E.length) (hN : 1 ≤ E2.length) (hsz : E.length ≤ 10000) (hsz2 : E2.length ≤ 20000) (hbase : base ≤ W.heap.size) :
    Calls Tryz.prog 31 #[.pointer (some ⟨X, 0, none⟩), .agg #[.int .i64 (F : Int), .int .i64 (O : Int), .int .i64 (E2.length : Int)], v2] W fun e W' => (∃ v, e = .returned v) ∧ PutTo W base X b n (E.take F ++ E2 ++ E.drop (F + O)) W' := by
  by_cases h : O = 1 ∧ E2.length = 1
  · obtain ⟨rfl, h1⟩ := h
    obtain ⟨e2, rfl⟩ := List.length_eq_one_iff.1 h1
    exact put_one W base X b cap n E e2 v2 F base2 hX hE h2 (by omega)
  · exact put_many W base X b cap n E E2 v2 F O base2 hX hE h2 hO hF hN hsz hsz2 hbase h

theorem again_c (T' : List UInt8) (hT : T'.length ≤ 10000) (W : World) (hG : LG W) (m : Int) (hm : W.cell? ⟨2, 0, none⟩ = some (.int .i64 m)) (base X b cap n : Nat) (hn : n ≤ 1000000) (E : List Ln)
    (hX : Row W X 65 #[.slice (some ⟨b, 0, none⟩) E.length cap, .int .i64 (n : Int)]) (hE : OwnE W base (.slice (some ⟨b, 0, none⟩) E.length cap) E) (hK : Toked W base E) :
    Calls Tryz.prog 32 #[.pointer (some ⟨X, 0, none⟩), .string (bs T')] W fun e W' => ∃ v E2, e = .returned v ∧ E2.map (·.text) = splitL T' ∧
      Row W' X 65 #[.slice (some ⟨b, 0, none⟩) E.length cap, .int .i64 ((n + E2.length : Nat) : Int)] ∧ OwnE W' base (.slice (some ⟨b, 0, none⟩) E.length cap) E ∧ Toked W' base E ∧ OwnE W' W.heap.size v E2 ∧ Toked W' W.heap.size E2 ∧ Off X X W W' := by
  refine (lexAgain_c T' hT W hG m hm X n hn _ hX).mono ?_
  rintro e W' ⟨v, E2, W1, rfl, h1, h2, h3, h4, rfl⟩
  have hX1 := hX.below h4 hX.lt
  have hE1 : OwnE W1 base (.slice (some ⟨b, 0, none⟩) E.length cap) E := ownsRow_keep hE (fun k hk => h4.block k (ownsRow_lt hE hk))
  have hK1 := hK.below h4
  have hoff : Off X X W1 (W1.setCell ⟨X, 1, none⟩ (.int .i64 ((n + E2.length : Nat) : Int))) := (Off.refl X X W1).setCell _
  have hXf : ∀ o, W1.heap[X]? = some o → o = .cells _ 65 (0, 0) := fun o ho => by rw [show W1.heap[X]? = _ from hX1] at ho; exact (Option.some.inj ho).symm
  have keepL : ∀ (bs0 : Nat) (v0 : Value) (E0 : List Ln), OwnE W1 bs0 v0 E0 → OwnE (W1.setCell ⟨X, 1, none⟩ (.int .i64 ((n + E2.length : Nat) : Int))) bs0 v0 E0 := fun bs0 v0 E0 h => ownsRow_keep h (fun k hk => by
    obtain ⟨cur, hc⟩ := ownsRow_at h hk
    refine hoff.block k (ownsRow_lt h hk) (fun e => ?_) (fun e => ?_) <;>
    · subst e; have := hXf _ hc; cases this)
  refine ⟨v, E2, rfl, h2, ?_, keepL _ _ _ hE1, hK1.off hoff hXf hXf (by decide) (by decide), keepL _ _ _ h1, h3.off hoff hXf hXf (by decide) (by decide), (Off.of_below h4).trans hoff⟩
  have := hX1.set 1 (.int .i64 ((n + E2.length : Nat) : Int))
  simpa using this

/-- What a splice that is done leaves. -/
def SpTo (W : World) (base X b : Nat) (T : List UInt8) (n a m : Nat) (s : List UInt8) (W' : World) : Prop :=
  ∃ b', Lx W' base X b' (splT T a m s) (n + (s.count 10 + 1)) ∧ Off X b W W' ∧ (b' = b ∨ W.heap.size ≤ b')

/-- A call ends that tells a change, and a number. -/
theorem ch_ret {f : Func} {j i h : Nat} {R : Ending → World → Prop} {a : Act} {W : World} {x y z v : Value} (hr : f.results = #[.cell j 33, .tmp i]) (ha : a.tmps[j]? = some (.pointer (some ⟨h, 0, none⟩))) (hi : a.tmps[i]? = some v) (hd : a.defers = [])
    (hrow : Row W h 33 #[x, y, z]) (hR : R (.returned (.tuple #[.agg #[x, y, z], v])) W) : bodyPost Tryz.prog f R Exit.ret a W := by
  have d0 := hrow.cell 0
  have d1 := hrow.cell 1
  have d2 := hrow.cell 2
  simp only [List.getElem?_toArray, List.getElem?_cons_zero, List.getElem?_cons_succ] at d0 d1 d2
  refine bodyPost_ret (v := .tuple #[.agg #[x, y, z], v]) ?_ hd hR
  simp [results, hr, ha, hi, go_sem, d0, d1, d2]

set_option maxRecDepth 100000 in
/-- A nil lexer. -/
theorem splice_nil (W : World) (a m : Int) (s : ByteArray) :
    Calls Tryz.prog 15 #[.pointer none, .int .i64 a, .int .i64 m, .string s] W fun e W' => e = .returned (.tuple #[chV 0 0 0, .int .i64 1]) ∧ Below W.heap.size W W' := by
  have HR := Lib.hid (Row.new W 33 #[.int .i64 0, .int .i64 0, .int .i64 0])
  go_enter Tryz.func15, Tryz.ntmps15
  go_wp2_with fail
  exact ch_ret rfl rfl rfl rfl HR.out ⟨rfl, (Below.refl _ W).alloc (Nat.le_refl _) _⟩

set_option maxRecDepth 100000 in
set_option maxHeartbeats 1000000 in
/-- No such bytes. -/
theorem splice_range (n₀ : Nat) (W : World) (hG : RG n₀ W) (X b : Nat) (T : List UInt8) (n : Nat) (h : Lx W n₀ X b T n) (a m : Int) (s : ByteArray) (ham : ¬ okSpan T.length a m) :
    Calls Tryz.prog 15 #[.pointer (some ⟨X, 0, none⟩), .int .i64 a, .int .i64 m, .string s] W fun e W' => e = .returned (.tuple #[chV 0 0 0, .int .i64 10]) ∧ Below W.heap.size W W' := by
  obtain ⟨aR, aF, c1, c2, hne, hbR, hbF, l1, l2⟩ := hG.sn
  have hle := hG.le
  obtain ⟨_, _, _, g4⟩ := hG.glt
  have HR := Lib.hid (Row.new W 33 #[.int .i64 0, .int .i64 0, .int .i64 0])
  have hb0 : Below W.heap.size W (W.alloc (.cells #[.int .i64 0, .int .i64 0, .int .i64 0] 33)) := (Below.refl _ W).alloc (Nat.le_refl _) _
  have hcR : ∀ W', Below W.heap.size W W' → W'.cell? ⟨0, 0, none⟩ = some (errV aR) := fun W' hb => (hb.cell (p := ⟨0, 0, none⟩) (by dsimp only; omega)).trans c1
  have HW := Lib.hid (wrong_range _ n₀ X b T n (h.below hb0) a m s ham aR (fun W' hb => hcR W' (hb0.trans (hb.mono hb0.size))))
  have HCR := Lib.hid hcR
  have HB0 := Lib.hid hb0
  clear hG h ham c1 c2 hbR hbF hb0 hcR
  go_enter Tryz.func15, Tryz.ntmps15
  go_wp2_with fail
  refine HW.out.mono ?_
  rintro e w1 ⟨rfl, hb1⟩
  have HB1 := Lib.hid (HB0.out.trans (hb1.mono HB0.out.size))
  have HR1 := Lib.hid (HR.out.below hb1 HR.out.lt)
  have k1 := HCR.out w1 HB1.out
  clear hb1
  go_wp2_with fail
  refine (is_same aR _).mono ?_
  rintro e w2 ⟨rfl, rfl⟩
  have c0 := HR1.out.cell 0
  have c1 := HR1.out.cell 1
  have c2 := HR1.out.cell 2
  have f0 := HR1.out.frozen 0
  have f1 := HR1.out.frozen 1
  have f2 := HR1.out.frozen 2
  simp only [List.getElem?_toArray, List.getElem?_cons_zero, List.getElem?_cons_succ] at c0 c1 c2
  go_wp2_with fail
  refine ch_ret rfl rfl rfl rfl (((HR1.out.set 0 _).set 1 _).set 2 _) ⟨rfl, ((HB1.out.setCell (p := ⟨W.heap.size, 0, none⟩) (Nat.le_refl _) _).setCell (p := ⟨W.heap.size, 1, none⟩) (Nat.le_refl _) _).setCell (p := ⟨W.heap.size, 2, none⟩) (Nat.le_refl _) _⟩

set_option maxRecDepth 100000 in
set_option maxHeartbeats 1000000 in
/-- Too many bytes. -/
theorem splice_full (n₀ : Nat) (W : World) (hG : RG n₀ W) (X b : Nat) (T : List UInt8) (n : Nat) (h : Lx W n₀ X b T n) (a m : Nat) (s : ByteArray) (ham : a + m ≤ T.length) (hs : 4000 < T.length - m + s.size) :
    Calls Tryz.prog 15 #[.pointer (some ⟨X, 0, none⟩), .int .i64 (a : Int), .int .i64 (m : Int), .string s] W fun e W' => e = .returned (.tuple #[chV 0 0 0, .int .i64 11]) ∧ Below W.heap.size W W' := by
  obtain ⟨aR, aF, c1, c2, hne, ⟨x1, t1, hbR⟩, ⟨x2, t2, hbF⟩, l1, l2⟩ := hG.sn
  have hle := hG.le
  obtain ⟨_, _, _, g4⟩ := hG.glt
  have HR := Lib.hid (Row.new W 33 #[.int .i64 0, .int .i64 0, .int .i64 0])
  have hb0 : Below W.heap.size W (W.alloc (.cells #[.int .i64 0, .int .i64 0, .int .i64 0] 33)) := (Below.refl _ W).alloc (Nat.le_refl _) _
  have hcR : ∀ W', Below W.heap.size W W' → W'.cell? ⟨0, 0, none⟩ = some (errV aR) := fun W' hb => (hb.cell (p := ⟨0, 0, none⟩) (by dsimp only; omega)).trans c1
  have hcF : ∀ W', Below W.heap.size W W' → W'.cell? ⟨1, 0, none⟩ = some (errV aF) := fun W' hb => (hb.cell (p := ⟨1, 0, none⟩) (by dsimp only; omega)).trans c2
  have hio : ∀ W', Below W.heap.size W W' → Calls Tryz.prog 29 #[errV aF, errV aR] W' fun e w' => e = .returned (.bool false) ∧ W' = w' := fun W' hb => is_other aF aR x2 x1 t2 t1 W' (fun e => hne e.symm) ((hb.block _ (by omega)).trans hbF) ((hb.block _ (by omega)).trans hbR)
  have HW := Lib.hid (wrong_full _ n₀ X b T n (h.below hb0) a m s ham hs aF (fun W' hb => hcF W' (hb0.trans (hb.mono hb0.size))))
  have HCR := Lib.hid hcR
  have HCF := Lib.hid hcF
  have HIO := Lib.hid hio
  have HB0 := Lib.hid hb0
  clear hG h ham c1 c2 hbR hbF hb0 hcR hcF hio hs hne
  go_enter Tryz.func15, Tryz.ntmps15
  go_wp2_with fail
  refine HW.out.mono ?_
  rintro e w1 ⟨rfl, hb1⟩
  have HB1 := Lib.hid (HB0.out.trans (hb1.mono HB0.out.size))
  have HR1 := Lib.hid (HR.out.below hb1 HR.out.lt)
  have k1 := HCR.out w1 HB1.out
  have k2 := HCF.out w1 HB1.out
  clear hb1
  go_wp2_with fail
  refine (HIO.out _ HB1.out).mono ?_
  rintro e w2 ⟨rfl, rfl⟩
  go_wp2_with fail
  refine (is_same aF _).mono ?_
  rintro e w2 ⟨rfl, rfl⟩
  have c0 := HR1.out.cell 0
  have c1 := HR1.out.cell 1
  have c2 := HR1.out.cell 2
  have f0 := HR1.out.frozen 0
  have f1 := HR1.out.frozen 1
  have f2 := HR1.out.frozen 2
  simp only [List.getElem?_toArray, List.getElem?_cons_zero, List.getElem?_cons_succ] at c0 c1 c2
  go_wp2_with fail
  refine ch_ret rfl rfl rfl rfl (((HR1.out.set 0 _).set 1 _).set 2 _) ⟨rfl, ((HB1.out.setCell (p := ⟨W.heap.size, 0, none⟩) (Nat.le_refl _) _).setCell (p := ⟨W.heap.size, 1, none⟩) (Nat.le_refl _) _).setCell (p := ⟨W.heap.size, 2, none⟩) (Nat.le_refl _) _⟩
end Go.Proofs.YtdgffpcbpilkcaaGreatDoor

/- A splice that is done. -/
namespace Go.Proofs.YtdgffpcbpilkcaaGreatDoor
open Go Go.RowKit Go.Shelf
attribute [local go_sem] Oper.semAt_some

set_option maxRecDepth 100000 in
set_option maxHeartbeats 4000000 in
theorem splice_ok (n₀ : Nat) (W : World) (hG : RG n₀ W) (X b : Nat) (T : List UInt8) (n : Nat) (hn : n ≤ 1000000) (h : Lx W n₀ X b T n) (a m : Nat) (s : List UInt8) (ham : a + m ≤ T.length) (hs : T.length - m + s.length ≤ 4000) :
    Calls Tryz.prog 15 #[.pointer (some ⟨X, 0, none⟩), .int .i64 (a : Int), .int .i64 (m : Int), .string (bs s)] W fun e W' => e = .returned (.tuple #[chV (frL T a) (olL T a m) (s.count 10 + 1), .int .i64 0]) ∧ SpTo W n₀ X b T n a m s W' := by
  have hmix : Tryz.prog.follows .mixedOrders = true := by kernel_rfl
  obtain ⟨aR, aF, c1, c2, hne, ⟨x1, t1, hbR⟩, ⟨x2, t2, hbF⟩, l1, l2⟩ := hG.sn
  obtain ⟨mx, hmx⟩ := hG.mx
  have hle := hG.le
  obtain ⟨_, _, _, g4⟩ := hG.glt
  have hsm := h.small
  have hsl : s.length ≤ 4000 := by omega
  have hlX := h.ltX
  have hlb := h.ltb.1
  have hbX := h.baseX
  have hbb := h.ltb.2.1
  -- the pieces, as calls
  have HR := Lib.hid (Row.new W 33 #[.int .i64 0, .int .i64 0, .int .i64 0])
  have hb0 : Below W.heap.size W (W.alloc (.cells #[.int .i64 0, .int .i64 0, .int .i64 0] 33)) := (Below.refl _ W).alloc (Nat.le_refl _) _
  have hcR : ∀ W', Below W.heap.size W W' → W'.cell? ⟨0, 0, none⟩ = some (errV aR) := fun W' hb => (hb.cell (p := ⟨0, 0, none⟩) (by dsimp only; omega)).trans c1
  have hcF : ∀ W', Below W.heap.size W W' → W'.cell? ⟨1, 0, none⟩ = some (errV aF) := fun W' hb => (hb.cell (p := ⟨1, 0, none⟩) (by dsimp only; omega)).trans c2
  have HW := Lib.hid (wrong_ok _ n₀ X b T n (h.below hb0) a m (bs s) ham (by rw [bs_size]; exact hs))
  have HCH := Lib.hid (fun W' (hb : Below W.heap.size W W') => change_c W' n₀ X b T n (h.below hb) a m s ham (by omega))
  have hmid := midT_size T a m s ham
  have hml := midT_len T a m s ham
  have hO : 1 ≤ olL T a m := by unfold olL; omega
  have hmo := frL_mono T (show a ≤ a + m by omega) ham
  have hlt := frL_lt T ham
  obtain ⟨E, cap, h1, h2, h3, h4, h5, h6, h7, h8, h9, h10, h11⟩ := h.open
  have hElen : E.length = (splitL T).length := by rw [← h3, List.length_map]
  have hFO : frL T a + olL T a m ≤ E.length := by rw [hElen]; unfold olL; omega
  have hlines := splT_lines T a m s ham
  have hspl : (splT T a m s).length ≤ 4000 := by rw [splT_len ham]; exact hs
  obtain ⟨F, hFe⟩ : ∃ F, F = frL T a := ⟨_, rfl⟩
  obtain ⟨O, hOe⟩ : ∃ F, F = olL T a m := ⟨_, rfl⟩
  obtain ⟨N, hNe⟩ : ∃ F, F = s.count 10 + 1 := ⟨_, rfl⟩
  obtain ⟨M, hMe⟩ : ∃ F, F = midT T a m s := ⟨_, rfl⟩
  rw [← hFe, ← hOe, ← hNe, ← hMe] at HCH
  rw [← hNe, ← hMe] at hml
  rw [← hOe] at hO
  rw [← hFe, ← hOe] at hFO
  rw [← hMe] at hmid
  rw [← hFe, ← hOe, ← hMe] at hlines
  have HA := Lib.hid (fun W' (hb : Below W.heap.size W W') => again_c M (by omega) W' ((hG.below hb hle).lg) mx ((hb.cell (p := ⟨2, 0, none⟩) (by dsimp only; omega)).trans hmx) n₀ X b cap n hn E (h1.below hb h1.lt) (ownsRow_keep h2 (fun k hk => hb.block k (ownsRow_lt h2 hk))) (h4.below hb))
  have hfin : ∀ (w3 w4 w5 : World) (E2 : List Ln) (h0 : Nat), Below W.heap.size W w3 → Off X X w3 w4 → E2.map (·.text) = splitL M → Toked w4 n₀ E → Toked w4 w3.heap.size E2 → Row w4 X 65 #[.slice (some ⟨b, 0, none⟩) E.length cap, .int .i64 ((n + E2.length : Nat) : Int)] → OwnE w4 n₀ (.slice (some ⟨b, 0, none⟩) E.length cap) E → PutTo w4 n₀ X b ((n + N : Nat) : Int) (E.take F ++ E2 ++ E.drop (F + O)) w5 →
      W.heap.size ≤ h0 → (∀ o, w5.heap[h0]? = some o → ∃ c, o = .cells c 33 (0, 0)) → ∀ u0 u1 u2, SpTo W n₀ X b T n a m s (((w5.setCell ⟨h0, 0, none⟩ u0).setCell ⟨h0, 1, none⟩ u1).setCell ⟨h0, 2, none⟩ u2) := by
    intro w3 w4 w5 E2 h0 hb3 hoff ht hK1 hK2 hX4 hE4 hput hh0 hch u0 u1 u2
    obtain ⟨b', cap', r5, o5, off5, hb'⟩ := hput
    have hs3 := hb3.size
    have hX4f : ∀ o, w4.heap[X]? = some o → o = .cells _ 65 (0, 0) := fun o ho => by rw [show w4.heap[X]? = _ from hX4] at ho; exact (Option.some.inj ho).symm
    obtain ⟨cb, hcb⟩ := ownsRow_at hE4 (k := b) rfl
    have hb4f : ∀ o, w4.heap[b]? = some o → o = .cells cb 90 (0, 0) := fun o ho => by rw [hcb] at ho; exact (Option.some.inj ho).symm
    have hK51 : Toked w5 n₀ E := hK1.off off5 hX4f hb4f (by decide) (by decide)
    have hK52 : Toked w5 w3.heap.size E2 := hK2.off off5 hX4f hb4f (by decide) (by decide)
    have hK5 : Toked w5 n₀ (E.take F ++ E2 ++ E.drop (F + O)) := fun e he => by
      rw [List.append_assoc] at he
      rcases List.mem_append.1 he with q | q
      · exact hK51 e (List.mem_of_mem_take q)
      · rcases List.mem_append.1 q with q | q
        · exact ownsRow_mono (hK52 e q) (by omega)
        · exact hK51 e (List.mem_of_mem_drop q)
    have hOff : Off X b W w5 := by
      have q1 : Off X b W w4 := ⟨hoff.os.trans hb3.os, hoff.tape.trans hb3.tape, hoff.output.trans hb3.output, Nat.le_trans hs3 hoff.size, fun k hk e1 e2 => (hoff.block k (by omega) e1 e1).trans (hb3.block k hk)⟩
      exact q1.trans off5
    have hs4 : w3.heap.size ≤ w4.heap.size := hoff.size
    have hs5 : w4.heap.size ≤ w5.heap.size := off5.size
    have hset : ∀ k, k ≠ h0 → ((((w5.setCell ⟨h0, 0, none⟩ u0).setCell ⟨h0, 1, none⟩ u1).setCell ⟨h0, 2, none⟩ u2)).heap[k]? = w5.heap[k]? := fun k hk => by
      rw [Below.heap_setCell _ ⟨h0, 2, none⟩ _ k hk, Below.heap_setCell _ ⟨h0, 1, none⟩ _ k hk, Below.heap_setCell _ ⟨h0, 0, none⟩ _ k hk]
    have hXh : X ≠ h0 := by omega
    have hbh : b' ≠ h0 := fun e => by
      obtain ⟨cc, hcc⟩ := ownsRow_at o5 (k := b') rfl
      obtain ⟨c3, hc3⟩ := hch _ (e ▸ hcc)
      cases hc3
    refine ⟨b', ⟨hspl, hbX, E.take F ++ E2 ++ E.drop (F + O), cap', ?_, ownsRow_keep o5 (fun k hk => ?_), ?_, fun e he => ownsRow_keep (hK5 e he) (fun k hk => hset k (fun e2 => ?_))⟩, ⟨hOff.os, hOff.tape, hOff.output, ?_, fun k hk e1 e2 => ?_⟩, ?_⟩
    · have := (hset X hXh).trans r5
      rw [hNe] at this
      exact this
    · cases hk
      exact hset b' hbh
    · rw [hlines, List.map_append, List.map_append, List.map_take, List.map_drop, ht, h3]
    · obtain ⟨cc, hcc⟩ := ownsRow_at (hK5 e he) hk
      obtain ⟨c3, hc3⟩ := hch _ (e2 ▸ hcc)
      cases hc3
    · rw [World.size_setCell, World.size_setCell, World.size_setCell]
      exact hOff.size
    · exact (hset k (by omega)).trans (hOff.block k hk e1 e2)
    · rcases hb' with e | e
      · exact .inl e
      · exact .inr (by omega)
  have HFIN := Lib.hid hfin
  have HCR := Lib.hid hcR
  have HCF := Lib.hid hcF
  have HB0 := Lib.hid hb0
  have HML := Lib.hid hml
  have HLX := Lib.hid hlX
  have HLB := Lib.hid hlb
  have HLE := Lib.hid hle
  have HE5 := Lib.hid h5
  have HFO := Lib.hid hFO
  have HO1 := Lib.hid hO
  have HN1 : Hid (1 ≤ N ∧ N ≤ 4001) := Lib.hid ⟨by omega, by have : s.count 10 ≤ s.length := List.count_le_length; omega⟩
  rw [← hFe, ← hOe, ← hNe]
  clear hfin hG h c1 c2 hbR hbF hb0 hcR hcF hne hmx hml hlines hmid hmo hlt h1 h2 h3 h4 h7 h8 h9 h11 hElen hspl hFe hOe hNe hMe hlX hlb h10 h5 h6 hFO hO hbX hbb hle
  go_enter Tryz.func15, Tryz.ntmps15
  go_wp2_with fail
  refine HW.out.mono ?_
  rintro e w1 ⟨rfl, hb1⟩
  have HB1 := Lib.hid (HB0.out.trans (hb1.mono HB0.out.size))
  have HR1 := Lib.hid (HR.out.below hb1 HR.out.lt)
  have k1 := HCR.out w1 HB1.out
  have k2 := HCF.out w1 HB1.out
  clear hb1
  go_wp2_with fail
  refine (is_nil aR _).mono ?_
  rintro e w2 ⟨rfl, rfl⟩
  go_wp2_with fail
  refine (is_nil aF _).mono ?_
  rintro e w2 ⟨rfl, rfl⟩
  go_wp2_with fail
  refine (HCH.out _ HB1.out).mono ?_
  rintro e w2 ⟨rfl, hb2⟩
  have HB2 := Lib.hid (HB1.out.trans (hb2.mono HB1.out.size))
  have HR2 := Lib.hid (HR1.out.below hb2 HR1.out.lt)
  clear hb2 k1 k2
  go_wp2_with fail
  obtain ⟨W3, hW3⟩ : ∃ W3, W3 = w2.alloc (.cells #[.int .i64 (F : Int), .int .i64 (O : Int), .int .i64 (N : Int)] 33) := ⟨_, rfl⟩
  have hb3 : Below W.heap.size W W3 := by rw [hW3]; exact HB2.out.alloc HB2.out.size _
  have hr3 : Row W3 W.heap.size 33 #[.int .i64 0, .int .i64 0, .int .i64 0] := by rw [hW3]; exact HR2.out.alloc _
  have hq3 : Row W3 w2.heap.size 33 #[.int .i64 (F : Int), .int .i64 (O : Int), .int .i64 (N : Int)] := by rw [hW3]; exact Row.new _ _ _
  rw [← hW3]
  obtain ⟨q, hq⟩ : ∃ q, q = w2.heap.size := ⟨_, rfl⟩
  have hqW : W.heap.size < q := by rw [hq]; exact HR2.out.lt
  rw [← hq] at hq3 ⊢
  have HB3 := Lib.hid hb3
  have HR3 := Lib.hid hr3
  have HQ3 := Lib.hid hq3
  have HQW := Lib.hid hqW
  clear hW3 hq hb3 hr3 hq3 hqW
  have d0 := HQ3.out.cell 0
  have d1 := HQ3.out.cell 1
  have d2 := HQ3.out.cell 2
  simp only [List.getElem?_toArray, List.getElem?_cons_zero, List.getElem?_cons_succ] at d0 d1 d2
  go_region_held_law (fun w' => w'.cell? ⟨q, 0, none⟩ = some (.int .i64 (F : Int)) ∧ w'.cell? ⟨q, 1, none⟩ = some (.int .i64 (O : Int)) ∧ w'.cell? ⟨q, 2, none⟩ = some (.int .i64 (N : Int)))
    (first | exact HS5.out | exact HS4.out | exact ⟨d0, d1, d2⟩ | go_keep)
    (first
      | (go_at_call 32; refine (HA.out _ HB3.out.drew).mono ?_; rintro e w4 ⟨v4, E2, rfl, ht, hX4, hE4, hK4, h24, hK24, hoff4⟩
         have hl2 : E2.length = N := by rw [← HML.out, ← ht, List.length_map]
         have hqk : w4.heap[q]? = W3.heap[q]? := hoff4.block q HQ3.out.lt (by have := HLX.out; have := HQW.out; omega) (by have := HLX.out; have := HQW.out; omega)
         have HQ4 : Hid (Row w4 q 33 #[.int .i64 (F : Int), .int .i64 (O : Int), .int .i64 (N : Int)]) := Lib.hid (hqk.trans HQ3.out)
         have HS4 : Hid (w4.cell? ⟨q, 0, none⟩ = some (.int .i64 (F : Int)) ∧ w4.cell? ⟨q, 1, none⟩ = some (.int .i64 (O : Int)) ∧ w4.cell? ⟨q, 2, none⟩ = some (.int .i64 (N : Int))) := Lib.hid ⟨(World.cell?_of_block (a := ⟨q, 0, none⟩) hqk).trans d0, (World.cell?_of_block (a := ⟨q, 1, none⟩) hqk).trans d1, (World.cell?_of_block (a := ⟨q, 2, none⟩) hqk).trans d2⟩
         have HP : Hid (Calls Tryz.prog 31 #[.pointer (some ⟨X, 0, none⟩), .agg #[.int .i64 (F : Int), .int .i64 (O : Int), .int .i64 (N : Int)], v4] w4 fun e W' => (∃ v, e = .returned v) ∧ PutTo w4 n₀ X b ((n + N : Nat) : Int) (E.take F ++ E2 ++ E.drop (F + O)) W') := Lib.hid (by
           have hp := put_c w4 n₀ X b cap _ E E2 v4 F O _ hX4 hE4 h24 HO1.out HFO.out (by rw [hl2]; exact HN1.out.1) (by have := HE5.out; omega) (by rw [hl2]; have := HN1.out.2; omega) (by have h7 := HLE.out; have h8 := HB3.out.size; have h9 : W3.heap.size ≤ w4.heap.size := hoff4.size; omega)
           rw [hl2] at hp
           exact hp)
         have HT4 := Lib.hid ht
         have HX4 := Lib.hid hX4
         have HE4 := Lib.hid hE4
         have HK4 := Lib.hid hK4
         have HK24 := Lib.hid hK24
         have HOF4 := Lib.hid hoff4
         clear ht hX4 hE4 hK4 h24 hK24 hoff4 hl2 hqk)
      | (go_at_call 31; refine HP.out.mono ?_; rintro e w5 ⟨⟨v5, rfl⟩, hput⟩
         have HPU := Lib.hid hput
         obtain ⟨_, _, _, _, off5, _⟩ := hput
         have hqk5 : w5.heap[q]? = w4.heap[q]? := off5.block q HQ4.out.lt (by have := HLX.out; have := HQW.out; omega) (by have := HLB.out; have := HQW.out; omega)
         have HQ5 : Hid (Row w5 q 33 #[.int .i64 (F : Int), .int .i64 (O : Int), .int .i64 (N : Int)]) := Lib.hid (hqk5.trans HQ4.out)
         have HS5 : Hid (w5.cell? ⟨q, 0, none⟩ = some (.int .i64 (F : Int)) ∧ w5.cell? ⟨q, 1, none⟩ = some (.int .i64 (O : Int)) ∧ w5.cell? ⟨q, 2, none⟩ = some (.int .i64 (N : Int))) := Lib.hid ⟨HQ5.out.cell 0, HQ5.out.cell 1, HQ5.out.cell 2⟩
         have hlt0 : W.heap.size < w4.heap.size := Nat.lt_of_lt_of_le HR3.out.lt HOF4.out.size
         have HR5 : Hid (Row w5 W.heap.size 33 #[.int .i64 0, .int .i64 0, .int .i64 0]) := Lib.hid ((off5.block _ hlt0 (by have := HLX.out; omega) (by have := HLB.out; omega)).trans ((HOF4.out.block _ HR3.out.lt (by have := HLX.out; omega) (by have := HLX.out; omega)).trans HR3.out))
         clear hqk5 off5 hlt0))
  clear d0 d1 d2
  obtain ⟨d0, d1, d2⟩ := HS5.out
  have c0 := HR5.out.cell 0
  have c1 := HR5.out.cell 1
  have c2 := HR5.out.cell 2
  have f0 := HR5.out.frozen 0
  have f1 := HR5.out.frozen 1
  have f2 := HR5.out.frozen 2
  simp only [List.getElem?_toArray, List.getElem?_cons_zero, List.getElem?_cons_succ] at c0 c1 c2
  go_wp2_with fail
  refine ch_ret rfl rfl rfl rfl (((HR5.out.set 0 _).set 1 _).set 2 _) ⟨rfl, HFIN.out W3.drew w4 w5 E2 W.heap.size HB3.out.drew HOF4.out HT4.out HK4.out HK24.out HX4.out HE4.out HPU.out (Nat.le_refl _) (fun o ho => ?_) _ _ _⟩
  rw [show w5.heap[W.heap.size]? = _ from HR5.out] at ho
  exact ⟨_, (Option.some.inj ho).symm⟩
end Go.Proofs.YtdgffpcbpilkcaaGreatDoor

/- A new lexer. -/
namespace Go.Proofs.YtdgffpcbpilkcaaGreatDoor
open Go Go.RowKit Go.Shelf
attribute [local go_sem] Oper.semAt_some

theorem RG.mono {n₀ n₁ : Nat} {W : World} (h : RG n₀ W) (h1 : n₀ ≤ n₁) (h2 : n₁ ≤ W.heap.size) : RG n₁ W := by
  obtain ⟨g1, g2, g3, g4⟩ := h.glt
  obtain ⟨aR, aF, c1, c2, hne, b1, b2, l1, l2⟩ := h.sn
  exact ⟨h.lg, ⟨by omega, by omega, by omega, by omega⟩, h.mx, ⟨aR, aF, c1, c2, hne, b1, b2, by omega, by omega⟩, h2⟩

/-- The empty text's lexer. -/
theorem lx_empty (W : World) (base X b : Nat) (hX : Row W X 65 #[.slice (some ⟨b, 0, none⟩) 1 1, .int .i64 0]) (hb : Row W b 90 #[.string ⟨#[]⟩, .slice none 0 0]) (h1 : base ≤ X) (h2 : base ≤ b) : Lx W base X b [] 0 :=
  ⟨by simp, h1, [⟨[], none, 0, 0⟩], 1, hX, ⟨rfl, .inr ⟨b, 1, _, rfl, h2, hb, Nat.le_refl _, by unfold maxLen; omega, rfl, rfl⟩⟩, rfl, fun e he => by
    rw [List.mem_singleton.1 he]
    exact World.ownsRow_nil _ _ _ _⟩

theorem splT_new (s : List UInt8) : splT [] 0 0 s = s := by simp [splT]

set_option maxRecDepth 100000 in
set_option maxHeartbeats 1000000 in
/-- New(s). -/
theorem new_ok (W : World) (hG : RG W.heap.size W) (s : List UInt8) (hs : s.length ≤ 4000) :
    Calls Tryz.prog 11 #[.string (bs s)] W fun e W' => ∃ X b, e = .returned (.tuple #[.pointer (some ⟨X, 0, none⟩), .int .i64 0]) ∧ Lx W' W.heap.size X b s (s.count 10 + 1) ∧ Below W.heap.size W W' := by
  have hmk : ∀ W : World, (Instr.makeSlice 56 (.int .i64 1) (.int .i64 1)).run Tryz.prog W = .ok (.slice (some ⟨W.heap.size, 0, none⟩) 1 1) (W.alloc (.cells #[.string ⟨#[]⟩, .slice none 0 0] 90)) := fun W => by
    obtain ⟨i0, hi, hz0, hz1, hz2⟩ := info_line
    have h := run_make (P := Tryz.prog) W 56 90 i0 (.agg #[.string ⟨#[]⟩, .slice none 0 0]) Tryz.underlying56 hi hz0 .i64 .i64 1 1 (by omega) (by omega) (by rw [hz2]; omega) (by omega)
    rw [hz1] at h
    have e : madeCells (Value.agg #[.string ⟨#[]⟩, .slice none 0 0]).cells ((1 : Int).toNat * 2) = #[.string ⟨#[]⟩, .slice none 0 0] := by kernel_rfl
    rw [e] at h
    exact h
  obtain ⟨h, hh⟩ : ∃ h, h = W.heap.size := ⟨_, rfl⟩
  have HH := Lib.hid hh
  have hsp : ∀ W1, Below W.heap.size W W1 → ∀ b X, Lx W1 W.heap.size X b [] 0 → Calls Tryz.prog 15 #[.pointer (some ⟨X, 0, none⟩), .int .i64 0, .int .i64 0, .string (bs s)] W1 fun e W' => e = .returned (.tuple #[chV (frL [] 0) (olL [] 0 0) (s.count 10 + 1), .int .i64 0]) ∧ SpTo W1 W.heap.size X b [] 0 0 0 s W' :=
    fun W1 hb b X hl => splice_ok W.heap.size W1 (hG.below hb (Nat.le_refl _)) X b [] 0 (by omega) hl 0 0 s (by simp) (by simpa using hs)
  have HSP := Lib.hid hsp
  clear hsp hh hG
  obtain ⟨c1, hc1⟩ : ∃ c, c = frL [] 0 := ⟨_, rfl⟩
  obtain ⟨c2, hc2⟩ : ∃ c, c = olL [] 0 0 := ⟨_, rfl⟩
  rw [← hc1, ← hc2] at HSP
  clear hc1 hc2
  go_enter Tryz.func11, Tryz.ntmps11
  go_wp2_with fail
  have hx1 : Row ((W.alloc (.cells #[.string ⟨#[]⟩, .slice none 0 0] 90)).alloc (.cells #[.slice (some ⟨W.heap.size, 0, none⟩) 1 1, .int .i64 0] 65)) (W.heap.size + 1) 65 #[.slice (some ⟨W.heap.size, 0, none⟩) 1 1, .int .i64 0] := Row.at _ _ _ _ (by simp)
  have hx2 : Row ((W.alloc (.cells #[.string ⟨#[]⟩, .slice none 0 0] 90)).alloc (.cells #[.slice (some ⟨W.heap.size, 0, none⟩) 1 1, .int .i64 0] 65)) W.heap.size 90 #[.string ⟨#[]⟩, .slice none 0 0] := (Row.new _ _ _).alloc _
  have hb1 : Below W.heap.size W ((W.alloc (.cells #[.string ⟨#[]⟩, .slice none 0 0] 90)).alloc (.cells #[.slice (some ⟨W.heap.size, 0, none⟩) 1 1, .int .i64 0] 65)) := ((Below.refl _ W).alloc (Nat.le_refl _) _).alloc (by simp) _
  refine (HSP.out _ hb1 W.heap.size (W.heap.size + 1) (lx_empty _ _ _ _ hx1 hx2 (by omega) (Nat.le_refl _))).mono ?_
  rintro e w2 ⟨rfl, b', hl, hoff, hbb⟩
  have hb2 : Below W.heap.size W w2 := hb1.trans (hoff.below (by simp; omega) (by omega) (Nat.le_refl _))
  rw [splT_new, Nat.zero_add] at hl
  have HL := Lib.hid hl
  have HB := Lib.hid hb2
  clear hl hoff hbb hb2 hb1 hx1 hx2
  go_wp2_with fail
  go_ret2
  refine ⟨_, b', rfl, HL.out.below ((Below.refl _ w2).alloc (Nat.le_refl _) _), HB.out.alloc HB.out.size _⟩

set_option maxRecDepth 100000 in
set_option maxHeartbeats 1000000 in
/-- New of a text that is too long. -/
theorem new_full (W : World) (hG : RG W.heap.size W) (s : ByteArray) (hs : 4000 < s.size) :
    Calls Tryz.prog 11 #[.string s] W fun e W' => e = .returned (.tuple #[.pointer none, .int .i64 11]) ∧ Below W.heap.size W W' := by
  have hmk : ∀ W : World, (Instr.makeSlice 56 (.int .i64 1) (.int .i64 1)).run Tryz.prog W = .ok (.slice (some ⟨W.heap.size, 0, none⟩) 1 1) (W.alloc (.cells #[.string ⟨#[]⟩, .slice none 0 0] 90)) := fun W => by
    obtain ⟨i0, hi, hz0, hz1, hz2⟩ := info_line
    have h := run_make (P := Tryz.prog) W 56 90 i0 (.agg #[.string ⟨#[]⟩, .slice none 0 0]) Tryz.underlying56 hi hz0 .i64 .i64 1 1 (by omega) (by omega) (by rw [hz2]; omega) (by omega)
    rw [hz1] at h
    have e : madeCells (Value.agg #[.string ⟨#[]⟩, .slice none 0 0]).cells ((1 : Int).toNat * 2) = #[.string ⟨#[]⟩, .slice none 0 0] := by kernel_rfl
    rw [e] at h
    exact h
  have hsp : ∀ W1, Below W.heap.size W W1 → ∀ b X, Lx W1 W.heap.size X b [] 0 → Calls Tryz.prog 15 #[.pointer (some ⟨X, 0, none⟩), .int .i64 0, .int .i64 0, .string s] W1 fun e W' => e = .returned (.tuple #[chV 0 0 0, .int .i64 11]) ∧ Below W1.heap.size W1 W' :=
    fun W1 hb b X hl => splice_full W.heap.size W1 (hG.below hb (Nat.le_refl _)) X b [] 0 hl 0 0 s (by simp) (by simpa using hs)
  have HSP := Lib.hid hsp
  clear hsp hG
  go_enter Tryz.func11, Tryz.ntmps11
  go_wp2_with fail
  have hx1 : Row ((W.alloc (.cells #[.string ⟨#[]⟩, .slice none 0 0] 90)).alloc (.cells #[.slice (some ⟨W.heap.size, 0, none⟩) 1 1, .int .i64 0] 65)) (W.heap.size + 1) 65 #[.slice (some ⟨W.heap.size, 0, none⟩) 1 1, .int .i64 0] := Row.at _ _ _ _ (by simp)
  have hx2 : Row ((W.alloc (.cells #[.string ⟨#[]⟩, .slice none 0 0] 90)).alloc (.cells #[.slice (some ⟨W.heap.size, 0, none⟩) 1 1, .int .i64 0] 65)) W.heap.size 90 #[.string ⟨#[]⟩, .slice none 0 0] := (Row.new _ _ _).alloc _
  have hb1 : Below W.heap.size W ((W.alloc (.cells #[.string ⟨#[]⟩, .slice none 0 0] 90)).alloc (.cells #[.slice (some ⟨W.heap.size, 0, none⟩) 1 1, .int .i64 0] 65)) := ((Below.refl _ W).alloc (Nat.le_refl _) _).alloc (by simp) _
  refine (HSP.out _ hb1 W.heap.size (W.heap.size + 1) (lx_empty _ _ _ _ hx1 hx2 (by omega) (Nat.le_refl _))).mono ?_
  rintro e w2 ⟨rfl, hb2⟩
  have HB := Lib.hid (hb1.trans (hb2.mono hb1.size))
  clear hb2 hb1 hx1 hx2
  go_wp2_with fail
  go_ret2
  exact ⟨rfl, HB.out.alloc HB.out.size _⟩
end Go.Proofs.YtdgffpcbpilkcaaGreatDoor
