/- errors.Is over the three sentinels of package buffer: the same one: true; another one: false. What is wrong with a splice. A text's lines, lexed. Lines lexed, and counted. What a splice changes. -/
import Derived.Test.YtdgffpcbpilkcaaGreatDoorChecked
import Derived.WalkKit
import Derived.LaidEql
import Derived.Stop.Asserts
import Derived.RowKitTokens
import Derived.Test.YtdgffpcbpilkcaaGreatDoorRyA
import Derived.Test.YtdgffpcbpilkcaaGreatDoorLxFirstOf
import Derived.Test.YtdgffpcbpilkcaaGreatDoorShelf
import Derived.Laws.LoneSync
import Derived.Laws.StructEq
import Derived.BigQuiet
import Derived.Deep.QuietTactic
import Derived.RegionCalls
import Derived.Deep.RegionWith
import Derived.Deep.RegionLaw
import Derived.BigRegion
/- errors.Is over the three sentinels of package buffer: the same one: true; another one: false. -/
namespace Go.Proofs.YtdgffpcbpilkcaaGreatDoor
open Go.RowKit Go.Extern.Stop Go.Stop Go.Extern

theorem Tryz.isTypeOf (v : Value) (w : World) : (Extern.ReflectliteType.typeOf #[.iface 193 v]).run Tryz.prog w = .ok (.iface 111 (.agg #[.pointer (some ⟨6, 193, none⟩)])) w := by kernel_rfl
def cmpM : Array Value → Sem Value := Extern.ReflectliteType.method fun t => do Extern.Rtype.noPackHeld "Comparable" t; pure (.bool (← typeInfo t).comparable)
theorem Tryz.isComparable (w : World) : (cmpM #[.agg #[.pointer (some ⟨6, 193, none⟩)]]).run Tryz.prog w = .ok (.bool true) w := by kernel_rfl
theorem Tryz.isMethodComparable (v : Value) (w : World) : (Go.method 326 111 v "Comparable").run Tryz.prog w = .ok (146, v) w := by kernel_rfl
theorem Tryz.isComp : (Tryz.prog.info? 193).map (·.comparable) = some true := by kernel_rfl
theorem Tryz.isSize : (Tryz.prog.info? 215).map (·.size) = some 1 := by kernel_rfl
theorem Tryz.noIsE (v : Value) (xT : TypeId) (w : World) : (Instr.typeAssert (.iface 193 v) xT 113 true).run Tryz.prog w = .ok (.tuple #[.nilIface, .bool false]) w := run_typeAssert_lacksB Tryz.underlying113 (by kernel_rfl) (by kernel_rfl) v xT w
theorem Tryz.noUnwrapE (v : Value) (xT : TypeId) (w : World) : (Instr.typeAssert (.iface 193 v) xT 116 true).run Tryz.prog w = .ok (.tuple #[.nilIface, .bool false]) w := run_typeAssert_lacksB Tryz.underlying116 (by kernel_rfl) (by kernel_rfl) v xT w
theorem Tryz.noUnwrapsE (v : Value) (xT : TypeId) (w : World) : (Instr.typeAssert (.iface 193 v) xT 118 true).run Tryz.prog w = .ok (.tuple #[.nilIface, .bool false]) w := run_typeAssert_lacksB Tryz.underlying118 (by kernel_rfl) (by kernel_rfl) v xT w

set_option maxRecDepth 100000 in
/-- errors.Is(x, x), x a pointer to an errors.errorString. -/
theorem is_same (a : Addr) (w : World) :
    Calls Tryz.prog 29 #[.iface 193 (.pointer (some a)), .iface 193 (.pointer (some a))] w fun e w' => e = .returned (.bool true) ∧ w = w' := by
  obtain ⟨i, hi, hcmp⟩ := Option.map_eq_some_iff.1 Tryz.isComp
  obtain ⟨j, hj, hjs⟩ := Option.map_eq_some_iff.1 Tryz.isSize
  have h8 := @run_callFunc_extern Tryz.prog 39 _ Extern.ReflectliteType.typeOf Tryz.func39 (by kernel_rfl) (by kernel_rfl) (by kernel_rfl) (by kernel_rfl)
  have h32 := @run_callFunc_extern Tryz.prog 146 _ cmpM Tryz.func146 (by kernel_rfl) (by kernel_rfl) (by kernel_rfl) (by kernel_rfl)
  have tT := Tryz.isTypeOf
  have cT := Tryz.isComparable
  have mR := Tryz.isMethodComparable
  have heq := run_eql_iface_ptr_same (P := Tryz.prog) w a Tryz.underlying69 Tryz.underlying193 hi hcmp hj
  go_enter Tryz.func29, Tryz.ntmps29
  go_wp2
  refine wp_loop_rounds 1 ?_
  rw [rounds_succ]
  go_wp2
  go_ret
  exact ⟨rfl, rfl⟩

set_option maxRecDepth 100000 in
/-- errors.Is(x, y), two different pointers to errors.errorString: neither has Is nor Unwrap: false. -/
theorem is_other (a b : Addr) (ca cb : Array Value) (ta tb : TypeId) (w : World) (hne : a ≠ b) (ha : w.heap[a.block]? = some (.cells ca ta (0, 0))) (hb : w.heap[b.block]? = some (.cells cb tb (0, 0))) :
    Calls Tryz.prog 29 #[.iface 193 (.pointer (some a)), .iface 193 (.pointer (some b))] w fun e w' => e = .returned (.bool false) ∧ w = w' := by
  obtain ⟨i, hi, hcmp⟩ := Option.map_eq_some_iff.1 Tryz.isComp
  obtain ⟨j, hj, hjs⟩ := Option.map_eq_some_iff.1 Tryz.isSize
  have h8 := @run_callFunc_extern Tryz.prog 39 _ Extern.ReflectliteType.typeOf Tryz.func39 (by kernel_rfl) (by kernel_rfl) (by kernel_rfl) (by kernel_rfl)
  have h32 := @run_callFunc_extern Tryz.prog 146 _ cmpM Tryz.func146 (by kernel_rfl) (by kernel_rfl) (by kernel_rfl) (by kernel_rfl)
  have tT := Tryz.isTypeOf
  have cT := Tryz.isComparable
  have mR := Tryz.isMethodComparable
  have nE := Tryz.noIsE
  have uE := Tryz.noUnwrapE
  have vE := Tryz.noUnwrapsE
  have heq := run_eql_iface_ptr_other (P := Tryz.prog) w Tryz.underlying69 Tryz.underlying193 hi hcmp hj (by rw [hjs]; decide) hne ha hb
  go_enter Tryz.func29, Tryz.ntmps29
  go_wp2
  refine wp_loop_rounds 1 ?_
  rw [rounds_succ]
  go_wp2
  go_ret
  exact ⟨rfl, rfl⟩

end Go.Proofs.YtdgffpcbpilkcaaGreatDoor

/- What is wrong with a splice. -/
namespace Go.Proofs.YtdgffpcbpilkcaaGreatDoor
open Go Go.RowKit Go.Shelf
attribute [local go_sem] Oper.semAt_some

/-- An error value of the sentinels' type. -/
abbrev errV (a : Addr) : Value := .iface 193 (.pointer (some a))

set_option maxRecDepth 100000 in
/-- errors.Is(nil, x). -/
theorem is_nil (a : Addr) (w : World) :
    Calls Tryz.prog 29 #[.nilIface, errV a] w fun e w' => e = .returned (.bool false) ∧ w = w' := by
  have heq := run_eql_iface_nil_left (P := Tryz.prog) w 193 (.pointer (some a)) Tryz.underlying69
  go_enter Tryz.func29, Tryz.ntmps29
  go_wp2
  go_ret
  exact ⟨rfl, rfl⟩

/-- May n bytes be taken from a place on, of L? -/
def okSpan (L : Nat) (a m : Int) : Prop := 0 ≤ a ∧ a ≤ (L : Int) ∧ 0 ≤ m ∧ m ≤ (L : Int) - a

set_option maxHeartbeats 1000000 in
set_option maxRecDepth 100000 in
/-- Nothing is wrong. -/
theorem wrong_ok (W : World) (base X b : Nat) (T : List UInt8) (n : Nat) (h : Lx W base X b T n) (a m : Nat) (s : ByteArray) (ham : a + m ≤ T.length) (hs : T.length - m + s.size ≤ 4000) :
    Calls Tryz.prog 28 #[.pointer (some ⟨X, 0, none⟩), .int .i64 (a : Int), .int .i64 (m : Int), .string s] W fun e W' => e = .returned .nilIface ∧ Below W.heap.size W W' := by
  have HC := Lib.hid (lsize_c W base X b T n h)
  have hl := h.small
  clear h
  obtain ⟨L, hL⟩ : ∃ L, L = T.length := ⟨_, rfl⟩
  rw [← hL] at HC ham hs hl
  clear hL
  have t1 : decide ((L : Int) < (a : Int)) = false := by simp; omega
  have t2 : decide ((L : Int) - (a : Int) < (m : Int)) = false := by simp; omega
  have t3 : decide ((4000 : Int) - ((L : Int) - (m : Int)) < (s.size : Int)) = false := by simp; omega
  have hss : s.size ≤ 4000 := by omega
  go_enter Tryz.func28, Tryz.ntmps28
  go_wp2_with fail
  refine HC.out.mono ?_
  rintro e w1 ⟨rfl, hb1⟩
  have HB := Lib.hid hb1
  clear hb1
  go_wp2
  go_ret
  exact ⟨rfl, HB.out⟩

set_option maxHeartbeats 1000000 in
set_option maxRecDepth 100000 in
/-- There would be too many bytes. -/
theorem wrong_full (W : World) (base X b : Nat) (T : List UInt8) (n : Nat) (h : Lx W base X b T n) (a m : Nat) (s : ByteArray) (ham : a + m ≤ T.length) (hs : 4000 < T.length - m + s.size)
    (aF : Addr) (cF : ∀ W', Below W.heap.size W W' → W'.cell? ⟨1, 0, none⟩ = some (errV aF)) :
    Calls Tryz.prog 28 #[.pointer (some ⟨X, 0, none⟩), .int .i64 (a : Int), .int .i64 (m : Int), .string s] W fun e W' => e = .returned (errV aF) ∧ Below W.heap.size W W' := by
  have HC := Lib.hid (lsize_c W base X b T n h)
  have hl := h.small
  have HF := Lib.hid cF
  clear h cF
  obtain ⟨L, hL⟩ : ∃ L, L = T.length := ⟨_, rfl⟩
  rw [← hL] at HC ham hs hl
  clear hL
  have t1 : decide ((L : Int) < (a : Int)) = false := by simp; omega
  have t2 : decide ((L : Int) - (a : Int) < (m : Int)) = false := by simp; omega
  have t3 : decide ((4000 : Int) - ((L : Int) - (m : Int)) < (s.size : Int)) = true := by simp; omega
  go_enter Tryz.func28, Tryz.ntmps28
  go_wp2_with fail
  refine HC.out.mono ?_
  rintro e w1 ⟨rfl, hb1⟩
  have c1 := HF.out w1 hb1
  have HB := Lib.hid hb1
  clear hb1
  go_wp2
  go_ret
  exact ⟨rfl, HB.out⟩

set_option maxHeartbeats 2000000 in
set_option maxRecDepth 100000 in
/-- There are no such bytes. -/
theorem wrong_range (W : World) (base X b : Nat) (T : List UInt8) (n : Nat) (h : Lx W base X b T n) (a m : Int) (s : ByteArray) (ham : ¬ okSpan T.length a m)
    (aR : Addr) (cR : ∀ W', Below W.heap.size W W' → W'.cell? ⟨0, 0, none⟩ = some (errV aR)) :
    Calls Tryz.prog 28 #[.pointer (some ⟨X, 0, none⟩), .int .i64 a, .int .i64 m, .string s] W fun e W' => e = .returned (errV aR) ∧ Below W.heap.size W W' := by
  have HC := Lib.hid (lsize_c W base X b T n h)
  have hl := h.small
  have HF := Lib.hid cR
  clear h cR
  unfold okSpan at ham
  obtain ⟨L, hL⟩ : ∃ L, L = T.length := ⟨_, rfl⟩
  rw [← hL] at HC ham hl
  clear hL
  by_cases p1 : a < 0
  · have t1 : decide (a < 0) = true := by simp; omega
    clear ham
    go_enter Tryz.func28, Tryz.ntmps28
    go_wp2_with fail
    refine HC.out.mono ?_
    rintro e w1 ⟨rfl, hb1⟩
    have c1 := HF.out w1 hb1
    have HB := Lib.hid hb1
    clear hb1
    go_wp2
    go_ret
    exact ⟨rfl, HB.out⟩
  · have t1 : decide (a < 0) = false := by simp; omega
    by_cases p2 : (L : Int) < a
    · have t2 : decide ((L : Int) < a) = true := by simp; omega
      clear ham
      go_enter Tryz.func28, Tryz.ntmps28
      go_wp2_with fail
      refine HC.out.mono ?_
      rintro e w1 ⟨rfl, hb1⟩
      have c1 := HF.out w1 hb1
      have HB := Lib.hid hb1
      clear hb1
      go_wp2
      go_ret
      exact ⟨rfl, HB.out⟩
    · have t2 : decide ((L : Int) < a) = false := by simp; omega
      by_cases p3 : m < 0
      · have t3 : decide (m < 0) = true := by simp; omega
        clear ham
        go_enter Tryz.func28, Tryz.ntmps28
        go_wp2_with fail
        refine HC.out.mono ?_
        rintro e w1 ⟨rfl, hb1⟩
        have c1 := HF.out w1 hb1
        have HB := Lib.hid hb1
        clear hb1
        go_wp2
        go_ret
        exact ⟨rfl, HB.out⟩
      · have t3 : decide (m < 0) = false := by simp; omega
        have p4 : (L : Int) - a < m := by omega
        have t4 : decide ((L : Int) - a < m) = true := by simp; omega
        clear ham
        go_enter Tryz.func28, Tryz.ntmps28
        go_wp2_with fail
        refine HC.out.mono ?_
        rintro e w1 ⟨rfl, hb1⟩
        have c1 := HF.out w1 hb1
        have HB := Lib.hid hb1
        clear hb1
        go_wp2
        go_ret
        exact ⟨rfl, HB.out⟩
end Go.Proofs.YtdgffpcbpilkcaaGreatDoor

/- A text's lines, lexed. -/
namespace Go.Proofs.YtdgffpcbpilkcaaGreatDoor
open Go Go.RowKit Go.Shelf
attribute [local go_sem] Oper.semAt_some

theorem Toked.grown {W W' : World} {base : Nat} {E : List Ln} {row : Option Nat} (h : Toked W base E) (hg : W.grownBy W' row) (hr : ∀ r, row = some r → ∃ cur, W.heap[r]? = some (.cells cur 90 (0, 0))) : Toked W' base E :=
  fun e he => ownsRow_keep (h e he) (fun k hk => by
    obtain ⟨cur, hc⟩ := ownsRow_at (h e he) hk
    refine hg.block k (ownsRow_lt (h e he) hk) (fun e => ?_)
    obtain ⟨c2, h2⟩ := hr k e.symm
    rw [hc] at h2
    cases h2)
theorem ownE_row {W : World} {base n : Nat} {v : Value} {xs : List Value} (h : W.ownsRow base 90 2 v n xs) : ∀ r, v.ownBlock = some r → ∃ cur, W.heap[r]? = some (.cells cur 90 (0, 0)) := fun _ hr => ownsRow_at h hr
theorem own_sl {W : World} {base size n : Nat} {t : TypeId} {v : Value} {xs : List Value} (h : W.ownsRow base t size v n xs) : ∃ a l c, v = .slice a l c := by
  rcases h.2 with ⟨e, _⟩ | ⟨g, cap, cur, e, _⟩ <;> exact ⟨_, _, _, e⟩

set_option maxRecDepth 100000 in
set_option maxHeartbeats 4000000 in
/-- linesOf(text). -/
theorem linesOf_c (T : List UInt8) (hT : T.length ≤ 10000) (w : World) (hG : LG w) (m : Int) (hm : w.cell? ⟨2, 0, none⟩ = some (.int .i64 m)) :
    Calls Tryz.prog 43 #[.string (bs T)] w fun e W' => ∃ v E, e = .returned v ∧ OwnE W' w.heap.size v E ∧ E.map (·.text) = splitL T ∧ Toked W' w.heap.size E ∧ Below w.heap.size w W' := by
  obtain ⟨i0, hi, hz0, hz1, hz2⟩ := info_line
  have hsp := Tryz.strings_Split (bs T) ⟨#[10]⟩ m w (by rw [bs_size]; omega) hm (by decide)
  obtain ⟨P, hP⟩ : ∃ P, P = Lib.splitB ⟨#[10]⟩ 0 (Lib.countB (bs T) ⟨#[10]⟩) (bs T) := ⟨_, rfl⟩
  have hPl : P.length = Lib.countB (bs T) ⟨#[10]⟩ + 1 := by rw [hP]; exact Lib.splitB_all _ (by decide) 0 _ _ rfl
  have hPs : P.map (·.data.toList) = splitL T := by rw [hP, splitB_lib]; congr 1
  have hPn : P.length = T.count 10 + 1 := by rw [← splitL_len, ← hPs, List.length_map]
  rw [← hP, ← hPl] at hsp
  have hcn : T.count 10 ≤ T.length := List.count_le_length
  obtain ⟨N, hN⟩ : ∃ N, N = P.length := ⟨_, rfl⟩
  rw [← hN] at hsp hPn
  have hN1 : N ≤ 10001 := by omega
  have hlt : ∀ (k : Nat) (p : ByteArray), P[k]? = some p → p.size ≤ 10000 ∧ (splitL T)[k]? = some p.data.toList := fun k p hp => by
    have h1 : (splitL T)[k]? = some p.data.toList := by rw [← hPs, List.getElem?_map, hp]; rfl
    refine ⟨?_, h1⟩
    have h2 := take_at (splitL T) k p.data.toList p.data.toList.length h1 (Nat.le_refl _)
    have h3 := congrArg List.length h2
    rw [join_split, List.take_length] at h3
    have h4 : p.data.toList.length ≤ (joinL ((splitL T).take k ++ [p.data.toList])).length := by
      cases h5 : (splitL T).take k with
      | nil => simp [joinL]
      | cons a A => rw [joinL_app _ _ (by simp) (by simp)]; simp [joinL]; omega
    rw [List.length_take] at h3
    rw [Lib.size_eq]
    omega
  have HSP := Lib.hid hsp
  have HPS := Lib.hid hPs
  have HLT := Lib.hid hlt
  have HN := Lib.hid hN
  have HG := Lib.hid hG
  clear hsp hPs hlt hN hPl hP hPn hG hm
  go_enter Tryz.func43, Tryz.ntmps43
  go_wp2_with fail
  refine HSP.out.mono ?_
  rintro e w1 ⟨rfl, hw1⟩
  have r1 : Row w1 w.heap.size 9 (P.map Value.string).toArray := by rw [hw1]; exact Row.new _ _ _
  have hb1 : Below w.heap.size w w1 := by rw [hw1]; exact (Below.refl _ w).alloc (Nat.le_refl _) _
  have hs1 : w1.heap.size = w.heap.size + 1 := by rw [hw1]; simp
  obtain ⟨h, hh⟩ : ∃ h, h = w.heap.size := ⟨_, rfl⟩
  have HW := Lib.hid hb1
  have HR := Lib.hid r1
  have HS1 := Lib.hid hs1
  rw [← hh] at HR HS1 ⊢
  have HH := Lib.hid hh
  have G1 := Lib.hid (HG.out.below hb1)
  clear hw1 r1 hb1 hs1 hh
  go_wp2
  go_loopw [3, 9] (fun v i wr => ∃ (k : Nat) (E : List Ln), k ≤ N ∧ i = .int .i64 k ∧ Below (h + 1) w1 wr ∧ OwnE wr (h + 1) v E ∧ E.length = k ∧ E.map (·.text) = (splitL T).take k ∧ Toked wr (h + 1) E)
    (fun _ i _ => N - (intOf i).toNat)
  case atStart => exact ⟨0, [], Nat.zero_le _, rfl, Below.refl _ _, World.ownsRow_nil _ _ _ _, rfl, by simp, fun e he => by cases he⟩
  case round =>
    obtain ⟨k, E, hk, rfl, hb2, hown, hEl, hEt, hTk⟩ := hrel
    have B2 := Lib.hid hb2
    have OW := Lib.hid hown
    have TK := Lib.hid hTk
    have ET := Lib.hid hEt
    have EL := Lib.hid hEl
    have hs2 := hb2.size
    have S2 : Hid (h + 1 ≤ wr.heap.size) := Lib.hid (by rw [← HS1.out]; exact hs2)
    by_cases hlt : k < N
    · obtain ⟨p, hp⟩ : ∃ p, P[k]? = some p := ⟨_, List.getElem?_eq_getElem (by rw [← HN.out]; exact hlt)⟩
      obtain ⟨hp1, hp2⟩ := HLT.out k p hp
      have c0 : wr.cell? ⟨h, k, none⟩ = some (.string p) := by
        rw [hb2.cell (p := ⟨h, k, none⟩) (by show h < h + 1; omega), HR.out.cell k]
        simp [hp]
      have hGr : LG wr := G1.out.belowN hb2 (by have := G1.out.gl.lt; have := HS1.out; omega) (by have := G1.out.lt1; have := HS1.out; omega) (by have := G1.out.lt2; have := HS1.out; omega)
      have HGr := Lib.hid hGr
      have HCL := Lib.hid (fun W => clone_c p hp1 W)
      have HLN : Hid (∀ W, LG W → Calls Tryz.prog 63 #[.string p] W fun e W' => ∃ v, e = .returned v ∧ OwnL W' (W.heap.size + 1) v (toks st p.data.toList 0) ∧ Below W.heap.size W W') := Lib.hid (fun W hW => by
        have := line_own p.data.toList (by rw [← Lib.size_eq]; exact hp1) W hW
        rwa [bs_of] at this)
      have HP2 := Lib.hid hp2
      obtain ⟨a3, l3, c3, hv3⟩ := own_sl hown
      clear hGr hp hp1 hp2 hb2 hown hTk hEl hEt hs2
      go_wp2_with fail
      refine (HCL.out _).mono ?_
      rintro e w3 ⟨rfl, hb3⟩
      have B3 := Lib.hid hb3
      have G3 := Lib.hid (HGr.out.below hb3)
      clear hb3
      go_wp2_with fail
      refine (HLN.out _ G3.out).mono ?_
      rintro e w4 ⟨vt, rfl, hvt, hb4⟩
      obtain ⟨ta, tl, tc, rfl⟩ := own_sl hvt
      have B4 : Hid (Below wr.heap.size wr w4) := Lib.hid (B3.out.trans (hb4.mono B3.out.size))
      have hs4 := hb4.size
      have hs3 := B3.out.size
      obtain ⟨en, hen⟩ : ∃ en : Ln, en = ⟨p.data.toList, ta, tl, tc⟩ := ⟨_, rfl⟩
      have hTE : Toked w4 (h + 1) (E ++ [en]) := fun e he => by
        rcases List.mem_append.1 he with h1 | h1
        · exact TK.out.below B4.out e h1
        · rw [List.mem_singleton.1 h1, hen]
          have h5 := S2.out
          exact ownsRow_mono hvt (by omega)
      have TE := Lib.hid hTE
      have hOE : OwnE w4 (h + 1) u3 E := ownsRow_keep OW.out (fun k hk => B4.out.block k (ownsRow_lt OW.out hk))
      have hOE2 := hOE.alloc (.cells #[.string p, .slice ta tl tc] 90)
      have HO := Lib.hid hOE2
      have hnews : ∀ (j : Nat) (u : Value), [Value.string p, .slice ta tl tc][j]? = some u → (w4.alloc (.cells #[.string p, .slice ta tl tc] 90)).cell? ((⟨w4.heap.size, 0, none⟩ : Addr).add j) = some u :=
        World.news_of_block (World.alloc_heap_new w4 (.cells #[.string p, .slice ta tl tc] 90))
      have HNW := Lib.hid hnews
      have hone : ∀ u ∈ [Value.string p, .slice ta tl tc], u.oneCell' = true := by intro u hu; simp at hu; rcases hu with rfl | rfl <;> rfl
      have HONE := Lib.hid hone
      have HLEN : Hid (E.length + 1 ≤ maxLen ∧ (E.length + 1) * 40 ≤ 140737488355328) := Lib.hid ⟨by rw [EL.out]; unfold maxLen; omega, by rw [EL.out]; omega⟩
      have HBASE : Hid (h + 1 ≤ (w4.alloc (.cells #[.string p, .slice ta tl tc] 90)).heap.size) := Lib.hid (by have := S2.out; rw [World.size_alloc]; omega)
      have HEN : Hid (lnL en = [.string p, .slice ta tl tc] ∧ en.text = p.data.toList) := Lib.hid (by rw [hen]; exact ⟨by simp [lnL, bs_of], rfl⟩)
      have HS4 : Hid (wr.heap.size ≤ w4.heap.size) := Lib.hid (by omega)
      subst hv3
      clear hvt hb4 hen hTE hOE hOE2 hnews hone hs4 hs3
      go_wp2_with (at_builtin; refine wpList_append_lies _ rfl (.tmp 13) (.tmp 19) 56 rfl (h + 1) 90 i0 (.agg #[.string ⟨#[]⟩, .slice none 0 0]) 2 40 Tryz.underlying56 hi hz0 hz1 hz2 rfl (by decide) (.slice a3 l3 c3) E.length (lnsL E) rfl HO.out ⟨w4.heap.size, 0, none⟩ 1 1 [.string p, .slice ta tl tc] rfl rfl HNW.out HONE.out (by decide) HLEN.out.1 HLEN.out.2 HBASE.out _ rfl ?_; intro g2 cap2 w5 hown5 hgrow5 _ _; have HO5 := Lib.hid hown5; have HG5 := Lib.hid hgrow5; clear hown5 hgrow5)
      go_roundw
      case rel =>
        have hrow := ownE_row HO.out
        refine ⟨k + 1, E ++ [en], by omega, by simp, ?_, ?_, by rw [List.length_append, EL.out]; rfl, ?_, ?_⟩
        · have hb5 : Below (h + 1) w4 w5 := ((Below.refl _ w4).alloc (by have := S2.out; have := HS4.out; omega) _).grown HG5.out HBASE.out (fun k e => (HO.out.lt k e).1)
          exact (B2.out.trans (B4.out.mono S2.out)).trans hb5
        · have h9 := HO5.out
          have e9 : lnsL (E ++ [en]) = lnsL E ++ [.string p, .slice ta tl tc] := by rw [lnsL_snoc, HEN.out.1]
          show w5.ownsRow (h + 1) _ 2 _ (E ++ [en]).length (lnsL (E ++ [en]))
          rw [e9, List.length_append]
          exact h9
        · rw [List.map_append, ET.out, List.take_add_one, HP2.out]
          simp [HEN.out.2]
        · have h8 : Toked (w4.alloc (.cells #[.string p, .slice ta tl tc] 90)) (h + 1) (E ++ [en]) := TE.out.below ((Below.refl _ w4).alloc (Nat.le_refl _) _)
          exact h8.grown HG5.out hrow
      case measure => simp [intOf]; omega
    · obtain rfl : k = N := by omega
      clear hb2 hown hTk hEl hEt hs2
      go_wp2
      go_ret
      refine ⟨_, E, rfl, ?_, ?_, ?_, ?_⟩
      · exact ownsRow_mono OW.out (by have := HH.out; omega)
      · rw [ET.out, List.take_of_length_le]
        rw [← HPS.out, List.length_map, HN.out]
        exact Nat.le_refl _
      · exact TK.out.mono (by have := HH.out; omega)
      · exact HW.out.trans (B2.out.mono (by have := HH.out; omega))
end Go.Proofs.YtdgffpcbpilkcaaGreatDoor

/- Lines lexed, and counted. -/
namespace Go.Proofs.YtdgffpcbpilkcaaGreatDoor
open Go Go.RowKit Go.Shelf
attribute [local go_sem] Oper.semAt_some

set_option maxRecDepth 100000 in
/-- x.Add(d). -/
theorem add_c (X x d : Nat) (W : World) (hc : W.cell? ⟨X, 1, none⟩ = some (.int .i64 (x : Int))) (hf : W.frozen? ⟨X, 1, none⟩ = false) (h : x + d ≤ 1000000000) :
    Calls Tryz.prog 44 #[.pointer (some ⟨X, 1, none⟩), .int .i64 (d : Int)] W fun e W' => e = .returned (.int .i64 ((x : Int) + (d : Int))) ∧ W' = W.setCell ⟨X, 1, none⟩ (.int .i64 ((x : Int) + (d : Int))) := by
  have hs : (Op.intArith .add .i64 (x : Int) (d : Int)).run Tryz.prog W = .ok (.int .i64 ((x : Int) + (d : Int))) W := by
    have : IntKind.wrap .i64 ((x : Int) + (d : Int)) = (x : Int) + (d : Int) := by simp [IntKind.wrap_i64]; omega
    simp [Op.intArith, this]
  have hd := run_call_add (P := Tryz.prog) (f := 64) Tryz.func64 (by kernel_rfl) (by kernel_rfl) (by kernel_rfl) .i64 (by kernel_rfl) hc hf hs
  go_enter Tryz.func44, Tryz.ntmps44
  go_wp2
  go_ret
  exact ⟨rfl, rfl⟩
set_option maxRecDepth 100000 in
/-- x.Load(). -/
theorem load_c (X x : Nat) (W : World) (hc : W.cell? ⟨X, 1, none⟩ = some (.int .i64 (x : Int))) :
    Calls Tryz.prog 35 #[.pointer (some ⟨X, 1, none⟩)] W fun e W' => e = .returned (.int .i64 (x : Int)) ∧ W' = W := by
  have hd := run_call_load (P := Tryz.prog) (f := 48) Tryz.func48 (by kernel_rfl) (by kernel_rfl) (by kernel_rfl) .i64 (by kernel_rfl) hc
  go_enter Tryz.func35, Tryz.ntmps35
  go_wp2
  go_ret
  exact ⟨rfl, rfl⟩

set_option maxRecDepth 100000 in
set_option maxHeartbeats 1000000 in
/-- x.lexAgain(text). -/
theorem lexAgain_c (T : List UInt8) (hT : T.length ≤ 10000) (W : World) (hG : LG W) (m : Int) (hm : W.cell? ⟨2, 0, none⟩ = some (.int .i64 m)) (X n : Nat) (hn : n ≤ 1000000) (v0 : Value) (hX : Row W X 65 #[v0, .int .i64 (n : Int)]) :
    Calls Tryz.prog 32 #[.pointer (some ⟨X, 0, none⟩), .string (bs T)] W fun e W' => ∃ v E W1, e = .returned v ∧ OwnE W1 W.heap.size v E ∧ E.map (·.text) = splitL T ∧ Toked W1 W.heap.size E ∧ Below W.heap.size W W1 ∧ W' = W1.setCell ⟨X, 1, none⟩ (.int .i64 ((n + E.length : Nat) : Int)) := by
  have HL := Lib.hid (linesOf_c T hT W hG m hm)
  have HX := Lib.hid hX
  clear hG hm hX
  go_enter Tryz.func32, Tryz.ntmps32
  go_wp2_with fail
  refine HL.out.mono ?_
  rintro e w1 ⟨v, E, rfl, ho, ht, hk, hb⟩
  have hl : E.length ≤ 10001 := by
    have h1 : E.length = T.count 10 + 1 := by rw [← splitL_len, ← ht, List.length_map]
    have : T.count 10 ≤ T.length := List.count_le_length
    omega
  have hx := HX.out.below hb HX.out.lt
  have c1 := hx.cell 1
  have f1 := hx.frozen 1
  simp at c1
  have HA := Lib.hid (fun W (c : W.cell? ⟨X, 1, none⟩ = some (.int .i64 (n : Int))) (f : W.frozen? ⟨X, 1, none⟩ = false) => add_c X n E.length W c f (by omega))
  obtain ⟨a0, l0, c0, rfl⟩ := own_sl ho
  have hll : l0 = E.length := by
    rcases ho.2 with ⟨e, e2⟩ | ⟨g, cap, cur, e, _⟩
    · cases e; exact e2.symm
    · cases e; rfl
  subst hll
  have HO := Lib.hid ho
  have HT := Lib.hid ht
  have HK := Lib.hid hk
  have HB := Lib.hid hb
  clear ho ht hk hb hx
  go_wp2_with fail
  refine (HA.out _ c1 f1).mono ?_
  rintro e w2 ⟨rfl, hw2⟩
  subst hw2
  go_wp2_with fail
  go_ret
  refine ⟨_, E, w1, rfl, HO.out, HT.out, HK.out, HB.out, by rw [Int.natCast_add]⟩
end Go.Proofs.YtdgffpcbpilkcaaGreatDoor

/- What a splice changes. -/
namespace Go.Proofs.YtdgffpcbpilkcaaGreatDoor
open Go Go.RowKit Go.Shelf
attribute [local go_sem] Oper.semAt_some

theorem bs_cat (a b : List UInt8) : bs a ++ bs b = bs (a ++ b) := by
  have h : (bs a ++ bs b).data.toList = a ++ b := by
    rw [ByteArray.data_append]
    simp [bs]
  have := congrArg bs h
  rwa [bs_of] at this
/-- A change. -/
abbrev chV (f o n : Nat) : Value := .agg #[.int .i64 (f : Int), .int .i64 (o : Int), .int .i64 (n : Int)]

set_option maxRecDepth 100000 in
set_option maxHeartbeats 4000000 in
/-- l.change(at, n, s). -/
theorem change_c (W : World) (base X b : Nat) (T : List UInt8) (n : Nat) (h : Lx W base X b T n) (a m : Nat) (s : List UInt8) (ham : a + m ≤ T.length) (hs : s.length ≤ 10000) :
    Calls Tryz.prog 30 #[.pointer (some ⟨X, 0, none⟩), .int .i64 (a : Int), .int .i64 (m : Int), .string (bs s)] W fun e W' => e = .returned (.tuple #[chV (frL T a) (olL T a m) (s.count 10 + 1), .string (bs (midT T a m s))]) ∧ Below W.heap.size W W' := by
  have hmix : Tryz.prog.follows .mixedOrders = true := by kernel_rfl
  obtain ⟨E, cap, h1, h2, h3, h4, h5, h6, h7, h8, h9, h10, h11⟩ := h.open
  have hsm := h.small
  obtain ⟨x, hx, hf, _⟩ := spec_at T a (by omega)
  obtain ⟨y, hy, hg, _⟩ := spec_at T (a + m) ham
  have hmo := frL_mono T (show a ≤ a + m by omega) ham
  have hF := fun W' (hb : Below W.heap.size W W') => lfind_c W' base X b T n (h.below hb) a (by omega)
  have hL := fun W' (hb : Below W.heap.size W W') => lfind_c W' base X b T n (h.below hb) (a + m) ham
  rw [Int.natCast_add] at hL
  have hC := fun W => Tryz.strings_Count_one (bs s) 10 W
  have hcb : Lib.countByte (bs s).data.toList 10 = s.count 10 := by unfold Lib.countByte; rw [bs_list]
  rw [hcb] at hC
  have hmid : midT T a m s = x.take (findL (splitL T) a).2 ++ s ++ y.drop (findL (splitL T) (a + m)).2 := by
    unfold midT
    rw [List.getD_eq_getElem?_getD, List.getD_eq_getElem?_getD, hx, hy]
    rfl
  have hol : olL T a m = frL T (a + m) - frL T a + 1 := rfl
  rw [hmid, hol]
  obtain ⟨ex, he1, he2⟩ : ∃ ex, E[frL T a]? = some ex ∧ ex.text = x := by
    rw [← h3, List.getElem?_map] at hx
    obtain ⟨ex, q1, q2⟩ := Option.map_eq_some_iff.1 hx
    exact ⟨ex, q1, q2⟩
  obtain ⟨ey, he3, he4⟩ : ∃ ey, E[frL T (a + m)]? = some ey ∧ ey.text = y := by
    rw [← h3, List.getElem?_map] at hy
    obtain ⟨ey, q1, q2⟩ := Option.map_eq_some_iff.1 hy
    exact ⟨ey, q1, q2⟩
  have l1 := (List.getElem?_eq_some_iff.1 he1).1
  have l2 := (List.getElem?_eq_some_iff.1 he3).1
  have k1 := (h11 _ _ he1).1
  have k2 := (h11 _ _ he3).1
  rw [he2] at k1
  rw [he4] at k2
  have kX := h1.cell 0
  simp at kX
  obtain ⟨F, hFe⟩ : ∃ F, F = frL T a := ⟨_, rfl⟩
  obtain ⟨L, hLe⟩ : ∃ L, L = frL T (a + m) := ⟨_, rfl⟩
  obtain ⟨f, hfe⟩ : ∃ F, F = (findL (splitL T) a).2 := ⟨_, rfl⟩
  obtain ⟨g, hge⟩ : ∃ F, F = (findL (splitL T) (a + m)).2 := ⟨_, rfl⟩
  rw [← hFe, ← hfe] at hF
  rw [← hLe, ← hge] at hL
  rw [← hFe] at l1 k1 hmo ⊢
  rw [← hLe] at l2 k2 hmo ⊢
  rw [← hfe] at hf ⊢
  rw [← hge] at hg ⊢
  obtain ⟨S1, hS1⟩ : ∃ S, S = bs x := ⟨_, rfl⟩
  obtain ⟨S2, hS2⟩ : ∃ S, S = bs y := ⟨_, rfl⟩
  have z1 : S1.size = x.length := by rw [hS1, bs_size]
  have z2 : S2.size = y.length := by rw [hS2, bs_size]
  have hxl : x.length ≤ 4000 := by
    have q1 : frL T a < E.length := by rw [← hFe]; exact l1
    have q2 := bgE_succ q1
    have q3 := bgE_le E (show frL T a + 1 ≤ E.length from q1)
    have q4 : lnAt E (frL T a) = ex := Option.some.inj ((lnAt_of q1).symm.trans he1)
    rw [q4, he2] at q2
    omega
  have hyl : y.length ≤ 4000 := by
    have q1 : frL T (a + m) < E.length := by rw [← hLe]; exact l2
    have q2 := bgE_succ q1
    have q3 := bgE_le E (show frL T (a + m) + 1 ≤ E.length from q1)
    have q4 : lnAt E (frL T (a + m)) = ey := Option.some.inj ((lnAt_of q1).symm.trans he3)
    rw [q4, he4] at q2
    omega
  have e1 : S1.extract 0 f = bs (x.take f) := by rw [hS1]; exact ext_take x f
  have e2 : S2.extract g S2.size = bs (y.drop g) := by rw [hS2, bs_size]; exact ext_drop y g
  have hres : (S1.extract 0 f ++ bs s) ++ S2.extract g S2.size = bs (x.take f ++ s ++ y.drop g) := by rw [e1, e2, bs_cat, bs_cat]
  have hz1 : (S1.extract 0 f).size = f := by rw [e1, bs_size, List.length_take]; omega
  have hz2 : (S2.extract g S2.size).size ≤ 4000 := by rw [e2, bs_size, List.length_drop]; omega
  have hss : (bs s).size ≤ 10000 := by rw [bs_size]; exact hs
  rw [← hS1] at k1
  rw [← hS2] at k2
  rw [← z1] at hf
  rw [← z2] at hg
  have hcn : s.count 10 ≤ 10000 := Nat.le_trans List.count_le_length hs
  obtain ⟨B, hB⟩ : ∃ B, B = bs s := ⟨_, rfl⟩
  obtain ⟨R, hR⟩ : ∃ R, R = bs (x.take f ++ s ++ y.drop g) := ⟨_, rfl⟩
  obtain ⟨c, hc⟩ : ∃ c, c = s.count 10 := ⟨_, rfl⟩
  rw [← hB] at hss hres hC ⊢
  rw [← hR] at hres ⊢
  rw [← hc] at hcn hC ⊢
  have ham3 : a ≤ 4000 ∧ m ≤ 4000 := by omega
  have HF := Lib.hid hF
  have HL := Lib.hid hL
  have HC := Lib.hid hC
  have HRS := Lib.hid hres
  have K1 := Lib.hid k1
  have K2 := Lib.hid k2
  have KX := Lib.hid kX
  have LB := Lib.hid h10
  have LX := Lib.hid h1.lt
  have XS : Hid (S1.size ≤ 4000) := Lib.hid (by omega)
  have YS : Hid (S2.size ≤ 4000) := Lib.hid (by omega)
  have Z1 := Lib.hid hz1
  have Z2 := Lib.hid hz2
  have hcap := h8
  clear hF hL hC hcb hmid hol he1 he2 he3 he4 hx hy hFe hLe hfe hge hS1 hS2 z1 z2 e1 e2 hres hz1 hz2 hB hR hc h h1 h2 h3 h4 h7 h9 h11 k1 k2 kX
  have hwr1 : a + m ≤ 8000 := by omega
  have hb0 : Below W.heap.size W (W.alloc (.cells #[.int .i64 0, .int .i64 0, .int .i64 0] 33)) := (Below.refl _ W).alloc (Nat.le_refl _) _
  have hr0 : Row (W.alloc (.cells #[.int .i64 0, .int .i64 0, .int .i64 0] 33)) W.heap.size 33 #[.int .i64 0, .int .i64 0, .int .i64 0] := Row.new _ _ _
  have HB0 := Lib.hid hb0
  have HR0 := Lib.hid hr0
  clear hb0 hr0
  go_enter Tryz.func30, Tryz.ntmps30
  go_wp2_with fail
  refine (HF.out _ HB0.out).mono ?_
  rintro e w1 ⟨rfl, hb1⟩
  have HB1 := Lib.hid (HB0.out.trans (hb1.mono HB0.out.size))
  have HR1 := Lib.hid (HR0.out.below hb1 HR0.out.lt)
  clear hb1
  go_wp2_with fail
  refine (HL.out _ HB1.out).mono ?_
  rintro e w2 ⟨rfl, hb2⟩
  have HB2 := Lib.hid (HB1.out.trans (hb2.mono HB1.out.size))
  have HR2 := Lib.hid (HR1.out.below hb2 HR1.out.lt)
  clear hb2
  go_wp2_with fail
  refine (HC.out _).mono ?_
  rintro e w3 ⟨rfl, hw3⟩
  obtain rfl := hw3.symm
  clear hw3
  go_wp2_with fail
  have hW3 : ∃ W3, W3 = w2.alloc (.cells #[.int .i64 (F : Int), .int .i64 ((L : Int) - (F : Int) + 1), .int .i64 ((c : Int) + 1)] 33) := ⟨_, rfl⟩
  obtain ⟨W3, hW3⟩ := hW3
  have hb3 : Below W.heap.size W W3 := by rw [hW3]; exact HB2.out.alloc HB2.out.size _
  have hr3 : Row W3 W.heap.size 33 #[.int .i64 0, .int .i64 0, .int .i64 0] := by rw [hW3]; exact HR2.out.alloc _
  have hq3 : Row W3 w2.heap.size 33 #[.int .i64 (F : Int), .int .i64 ((L : Int) - (F : Int) + 1), .int .i64 ((c : Int) + 1)] := by rw [hW3]; exact Row.new _ _ _
  have hne : w2.heap.size ≠ W.heap.size := by have := HR2.out.lt; omega
  have HB3 := Lib.hid hb3
  have HR3 := Lib.hid hr3
  rw [← hW3]
  clear hW3
  have kX := (hb3.cell (p := ⟨X, 0, none⟩) LX.out).trans KX.out
  have k1 := (hb3.cell (p := ⟨b, F * 2, none⟩) LB.out).trans K1.out
  have k2 := (hb3.cell (p := ⟨b, L * 2, none⟩) LB.out).trans K2.out
  have c0 := hr3.cell 0
  have c1 := hr3.cell 1
  have c2 := hr3.cell 2
  have f0 := hr3.frozen 0
  have f1 := hr3.frozen 1
  have f2 := hr3.frozen 2
  have d0 := hq3.cell 0
  have d1 := hq3.cell 1
  have d2 := hq3.cell 2
  simp at c0 c1 c2 d0 d1 d2
  have nX1 : X ≠ W.heap.size := by have := LX.out; omega
  have nX2 : W.heap.size ≠ X := fun e => nX1 e.symm
  have nb1 : b ≠ W.heap.size := by have := LB.out; omega
  have nb2 : W.heap.size ≠ b := fun e => nb1 e.symm
  have nw2 : W.heap.size ≠ w2.heap.size := fun e => hne e.symm
  have z1 := Z1.out
  have z2 := Z2.out
  have n1 : f ≤ 4000 := by have := XS.out; omega
  have n2 : ¬ (9223372036854775807 < f + B.size) := by omega
  have n3 : ¬ (9223372036854775807 < f + B.size + (S2.size - g)) := by have := YS.out; omega
  clear hb3 hr3 hq3
  have hr4 : Row (((W3.setCell ⟨W.heap.size, 0, none⟩ (.int .i64 (F : Int))).setCell ⟨W.heap.size, 1, none⟩ (.int .i64 ((L : Int) - (F : Int) + 1))).setCell ⟨W.heap.size, 2, none⟩ (.int .i64 ((c : Int) + 1))) W.heap.size 33 #[.int .i64 (F : Int), .int .i64 ((L : Int) - (F : Int) + 1), .int .i64 ((c : Int) + 1)] := by
    have := ((HR3.out.set 0 (.int .i64 (F : Int))).set 1 (.int .i64 ((L : Int) - (F : Int) + 1))).set 2 (.int .i64 ((c : Int) + 1))
    simpa using this
  have hb4 : Below W.heap.size W (((W3.setCell ⟨W.heap.size, 0, none⟩ (.int .i64 (F : Int))).setCell ⟨W.heap.size, 1, none⟩ (.int .i64 ((L : Int) - (F : Int) + 1))).setCell ⟨W.heap.size, 2, none⟩ (.int .i64 ((c : Int) + 1))) :=
    ((HB3.out.setCell (p := ⟨W.heap.size, 0, none⟩) (Nat.le_refl _) _).setCell (p := ⟨W.heap.size, 1, none⟩) (Nat.le_refl _) _).setCell (p := ⟨W.heap.size, 2, none⟩) (Nat.le_refl _) _
  have HR4 := Lib.hid hr4
  have HB4 := Lib.hid hb4
  clear hr4 hb4
  go_region
  all_goals go_wp2_with fail
  all_goals have q0 := HR4.out.cell 0
  all_goals have q1 := HR4.out.cell 1
  all_goals have q2 := HR4.out.cell 2
  all_goals simp only [List.getElem?_toArray, List.getElem?_cons_zero, List.getElem?_cons_succ] at q0 q1 q2
  all_goals refine bodyPost_ret (v := .tuple #[.agg #[.int .i64 (F : Int), .int .i64 ((L : Int) - (F : Int) + 1), .int .i64 ((c : Int) + 1)], .string R]) ?_ rfl ⟨?_, HB4.out.drew⟩
  all_goals first | (simp [results, Tryz.f30, go_sem, q0, q1, q2, HRS.out]; done) | skip
  all_goals show Ending.returned (Value.tuple #[.agg #[.int .i64 (F : Int), .int .i64 ((L : Int) - (F : Int) + 1), .int .i64 ((c : Int) + 1)], .string R]) = .returned (.tuple #[.agg #[.int .i64 (F : Int), .int .i64 ((L - F + 1 : Nat) : Int), .int .i64 ((c + 1 : Nat) : Int)], .string R])
  all_goals rw [show ((L - F + 1 : Nat) : Int) = (L : Int) - (F : Int) + 1 by omega, show ((c + 1 : Nat) : Int) = (c : Int) + 1 by omega]
end Go.Proofs.YtdgffpcbpilkcaaGreatDoor
