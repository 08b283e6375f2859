/- Merged by gen/ar_merge.py: NuPass, NuMap, NuChk, NuProd, NuTimes, NuRes, NuHolds. -/
import Derived.Test.YteclpoooggcdoaaGreatDoorNuA
import Derived.Shelf.AbstractIn
import Derived.Maps.Own
import Derived.Deep.RegionHeldLaw
import Derived.BigQuiet
import Derived.Deep.QuietTactic
import Derived.Scope
/- number's checker: pass, by no check, one, two. -/
namespace Go.Proofs.YteclpoooggcdoaaGreatDoor.Nu
open Go Go.RowKit Go.Shelf
attribute [local go_sem] Oper.semAt_some

/-- A pair of numbers. -/
abbrev pairV (x y : Int) : Value := .agg #[.int .i64 x, .int .i64 y]
/-- A checker of two numbers; a function's value. -/
abbrev chkV (x y : Int) : Value := .agg #[.int .i64 x, .int .i64 y]
/-- Nothing is wrong. -/
def okV : Value → Bool
  | .nilIface => true
  | _ => false
abbrev fnV (k : Nat) : Value := .func (.func k) #[] #[]
/-- The number, if nothing is wrong. -/
def okR (v : Value) (n : Int) : Int := if okV v then n else 0
/-- A check that may be called, and what it tells of x and y. -/
structure Chk (W : World) (x y : Int) (k : Nat) (v : Value) : Prop where
  enters : ∀ args w, (callFunc k args).run Tryz.prog w = .ok (.enter k args) w
  call : ∀ W', Below W.heap.size W W' → Calls Tryz.prog k #[pairV x y] W' fun e W2 => e = .returned v ∧ Below W'.heap.size W' W2
theorem Chk.mono {W W' : World} {x y : Int} {k : Nat} {v : Value} (h : Chk W x y k v) (hb : Below W.heap.size W W') : Chk W' x y k v := ⟨h.enters, fun W2 h2 => h.call W2 (hb.trans (h2.mono hb.size))⟩
end Go.Proofs.YteclpoooggcdoaaGreatDoor.Nu
/- Number's maps of glyphs: what a look-up and an insertion answer. -/
namespace Go.Proofs.YteclpoooggcdoaaGreatDoor.Nu
open Go Go.RowKit Go.Shelf
attribute [local go_sem] Oper.semAt_some

def ent (x : (ByteArray × Value) × Nat) : MapEntry := ⟨.string x.1.1, x.1.2, x.2⟩
def entL (l : List (ByteArray × Value)) : List MapEntry := l.zipIdx.map ent
theorem entL_snoc (l : List (ByteArray × Value)) (k : ByteArray) (v : Value) : entL (l ++ [(k, v)]) = entL l ++ [⟨.string k, v, l.length⟩] := by
  unfold entL
  rw [List.zipIdx_append, List.map_append]
  simp [ent]
def ask (s : ByteArray) : List ((ByteArray × Value) × Nat) → Nat → Option (Nat × Value)
  | [], _ => none
  | x :: E, i => if s = x.1.1 then some (i, x.1.2) else ask s E (i + 1)
theorem ask_now (s : ByteArray) : ∀ (E : List ((ByteArray × Value) × Nat)) (i : Nat), Instr.findNow .string (.string s) (E.map ent) i = some (ask s E i)
  | [], _ => rfl
  | x :: E, i => by
    have ih := ask_now s E (i + 1)
    simp only [List.map_cons, Instr.findNow, ent, Instr.sameNow, ask]
    by_cases h : s = x.1.1
    · have : (s == x.1.1) = true := (Go.MapKept.bytes_beq _ _).2 h
      rw [this, if_pos h]
    · have : (s == x.1.1) = false := by
        cases hb : (s == x.1.1)
        · rfl
        · exact absurd ((Go.MapKept.bytes_beq _ _).1 hb) h
      rw [this, if_neg h]
      exact ih
theorem find_s (s : ByteArray) (l : List (ByteArray × Value)) (W : World) : (Instr.findKey 9 (.string s) (entL l)).run Tryz.prog W = .ok (ask s l.zipIdx 0) W := by
  have h := ask_now s l.zipIdx 0
  unfold entL
  simp [Instr.findKey, run_underlying Tryz.underlying9, h, Result.andThen]
theorem check_s (W : World) (e : Bool) (s : ByteArray) : (Instr.checkKey e 10000 9 (.string s)).run Tryz.prog W = .ok () W :=
  Go.MapKept.run_checkKey (n := 9999) Tryz.underlying9 (by first | exact trivial | simp [Go.MapKept.IsKey]) e
/-- THE MAP LIES in block m. -/
def MapAt (W : World) (m : Nat) (l : List (ByteArray × Value)) : Prop := W.heap[m]? = some (.map (entL l).toArray l.length)
theorem MapAt.lt {W : World} {m : Nat} {l : List (ByteArray × Value)} (h : MapAt W m l) : m < W.heap.size := (Array.getElem?_eq_some_iff.1 h).1
theorem MapAt.below {W W' : World} {m : Nat} {l : List (ByteArray × Value)} (h : MapAt W m l) (hb : Below W.heap.size W W') : MapAt W' m l := (hb.block m h.lt).trans h
/-- What a look-up answers. -/
def ansF (r : Option (Nat × Value)) : Value := match r with
  | some x => .tuple #[x.2, .bool true]
  | none => .tuple #[.nilFunc, .bool false]
/-- All blocks but m stay. -/
def Kp (m : Nat) (W W' : World) : Prop := W.heap.size ≤ W'.heap.size ∧ ∀ q, q ≠ m → q < W.heap.size → W'.heap[q]? = W.heap[q]?
theorem Kp.trans {m : Nat} {W W' W2 : World} (h : Kp m W W') (h2 : Kp m W' W2) : Kp m W W2 := ⟨Nat.le_trans h.1 h2.1, fun q hq hl => (h2.2 q hq (Nat.lt_of_lt_of_le hl h.1)).trans (h.2 q hq hl)⟩
theorem Kp.alloc (m : Nat) (W : World) (o : Obj) : Kp m W (W.alloc o) := ⟨by rw [World.size_alloc]; exact Nat.le_succ _, fun q _ hl => Below.heap_alloc W o q hl⟩
/-- A map that is made, entry by entry. -/
theorem new_map (w : World) : MapAt (w.alloc (.map #[] 0)) w.heap.size [] := World.alloc_heap_new w _
end Go.Proofs.YteclpoooggcdoaaGreatDoor.Nu
/- number's checks. -/
namespace Go.Proofs.YteclpoooggcdoaaGreatDoor.Nu
open Go Go.RowKit



def quoR (x y : Int) : Int := if y = 0 then 1 else wrap64 (x.tdiv y)
end Go.Proofs.YteclpoooggcdoaaGreatDoor.Nu
/- The product of two numbers of four digits of 16 bits, column by column. -/
namespace Go.Proofs.YteclpoooggcdoaaGreatDoor.Nu
open Go

/-- What is added up in a column: its first n products. -/
def colS (a b at_ : Nat) : Nat → Nat
  | 0 => 0
  | n + 1 => colS a b at_ n + dg a n * dg b (at_ - n)
/-- What is carried into column k. -/
def carr (a b : Nat) : Nat → Nat
  | 0 => 0
  | k + 1 => (carr a b k + colS a b k (k + 1)) / 65536
def dgt (a b k : Nat) : Nat := (carr a b k + colS a b k (k + 1)) % 65536
/-- The first k digits of the product. -/
def prodS (a b : Nat) : Nat → Nat
  | 0 => 0
  | k + 1 => prodS a b k + dgt a b k * 65536 ^ k
def sumS (a b : Nat) : Nat → Nat
  | 0 => 0
  | k + 1 => sumS a b k + colS a b k (k + 1) * 65536 ^ k
theorem dg_lt (n k : Nat) : dg n k ≤ 65535 := by unfold dg; omega
theorem colS_le (a b at_ : Nat) : ∀ n, colS a b at_ n ≤ n * 4294836225
  | 0 => by simp [colS]
  | n + 1 => by
    have h := colS_le a b at_ n
    have h1 : dg a n * dg b (at_ - n) ≤ 65535 * 65535 := Nat.mul_le_mul (dg_lt _ _) (dg_lt _ _)
    simp only [colS]
    omega
theorem carr_le (a b : Nat) : ∀ k, k ≤ 8 → carr a b k ≤ 1000000
  | 0, _ => by simp [carr]
  | k + 1, hk => by
    have h := carr_le a b k (by omega)
    have h1 := colS_le a b k (k + 1)
    simp only [carr]
    omega
theorem col_bound (a b k n : Nat) (hk : k ≤ 8) (hn : n ≤ 8) : carr a b k + colS a b k n ≤ 34400000000 := by
  have h := carr_le a b k hk
  have h1 := colS_le a b k n
  omega
theorem sumS_eq (a b : Nat) : ∀ k, sumS a b k = prodS a b k + carr a b k * 65536 ^ k
  | 0 => by simp [sumS, prodS, carr]
  | k + 1 => by
    have h := sumS_eq a b k
    have h2 : carr a b k + colS a b k (k + 1) = dgt a b k + 65536 * carr a b (k + 1) := by simp only [dgt, carr]; omega
    simp only [sumS, prodS]
    rw [h, Nat.pow_succ]
    have h3 : (carr a b k + colS a b k (k + 1)) * 65536 ^ k = (dgt a b k + 65536 * carr a b (k + 1)) * 65536 ^ k := by rw [h2]
    rw [Nat.add_mul, Nat.add_mul] at h3
    have h4 : carr a b (k + 1) * (65536 ^ k * 65536) = 65536 * carr a b (k + 1) * 65536 ^ k := by
      rw [← Nat.mul_assoc, Nat.mul_comm (carr a b (k + 1) * 65536 ^ k), ← Nat.mul_assoc]
    omega
theorem prodS_lt (a b : Nat) : ∀ k, prodS a b k < 65536 ^ k
  | 0 => by simp [prodS]
  | k + 1 => by
    have h := prodS_lt a b k
    have h2 : dgt a b k ≤ 65535 := by unfold dgt; omega
    have h3 : dgt a b k * 65536 ^ k ≤ 65535 * 65536 ^ k := Nat.mul_le_mul_right _ h2
    simp only [prodS]
    rw [Nat.pow_succ]
    omega
theorem digits (n : Nat) (h : n < 18446744073709551616) : n = dg n 0 + dg n 1 * 65536 + dg n 2 * 65536 ^ 2 + dg n 3 * 65536 ^ 3 := by
  unfold dg
  simp only [Nat.pow_zero, Nat.pow_one, Nat.div_one]
  omega
theorem sumS_eight (a b : Nat) (ha : a < 18446744073709551616) (hb : b < 18446744073709551616) : sumS a b 8 = a * b := by
  have a4 := big_div a 4 ha (by omega)
  have a5 := big_div a 5 ha (by omega)
  have a6 := big_div a 6 ha (by omega)
  have a7 := big_div a 7 ha (by omega)
  have b4 := big_div b 4 hb (by omega)
  have b5 := big_div b 5 hb (by omega)
  have b6 := big_div b 6 hb (by omega)
  have b7 := big_div b 7 hb (by omega)
  have hA := digits a ha
  have hB := digits b hb
  simp only [sumS, colS, Nat.reduceSub, a4, a5, a6, a7, b4, b5, b6, b7]
  generalize dg a 0 = x0 at *
  generalize dg a 1 = x1 at *
  generalize dg a 2 = x2 at *
  generalize dg a 3 = x3 at *
  generalize dg b 0 = y0 at *
  generalize dg b 1 = y1 at *
  generalize dg b 2 = y2 at *
  generalize dg b 3 = y3 at *
  clear a4 a5 a6 a7 b4 b5 b6 b7 ha hb
  subst hA hB
  grind
theorem prodS_tail (a b : Nat) (h : ∀ j, 4 ≤ j → j < 8 → dgt a b j = 0) : prodS a b 8 = prodS a b 4 := by
  have e : ∀ k, 4 ≤ k → k < 8 → prodS a b (k + 1) = prodS a b k := fun k h0 h1 => by
    show prodS a b k + dgt a b k * 65536 ^ k = _
    rw [h k h0 h1, Nat.zero_mul, Nat.add_zero]
  exact (e 7 (by omega) (by omega)).trans ((e 6 (by omega) (by omega)).trans ((e 5 (by omega) (by omega)).trans (e 4 (by omega) (by omega))))
theorem prod_lin (p c N B M : Nat) (h1 : p + c * B = N) (h2 : N ≤ M) (h3 : M < B) : p = N := by
  rcases Nat.eq_zero_or_pos c with h | h
  · rw [h, Nat.zero_mul] at h1
    exact h1
  · have : 1 * B ≤ c * B := Nat.mul_le_mul_right _ h
    omega
/-- All digits past the fourth are 0: the product has room. -/
theorem prod_fits (a b : Nat) (ha : a < 18446744073709551616) (hb : b < 18446744073709551616) (h : ∀ j, 4 ≤ j → j < 8 → dgt a b j = 0) : prodS a b 4 = a * b := by
  have h1 := sumS_eight a b ha hb
  rw [sumS_eq, prodS_tail a b h] at h1
  exact prod_lin _ _ _ (65536 ^ 8) (18446744073709551615 * 18446744073709551615) h1 (Nat.mul_le_mul (Nat.le_of_lt_succ ha) (Nat.le_of_lt_succ hb)) (by decide)
/-- Some digit past the fourth is not 0: it has none. -/
theorem prod_over (a b : Nat) (ha : a < 18446744073709551616) (hb : b < 18446744073709551616) (j : Nat) (h4 : 4 ≤ j) (h8 : j < 8) (h : dgt a b j ≠ 0) : 18446744073709551616 ≤ a * b := by
  have h1 := sumS_eight a b ha hb
  rw [sumS_eq] at h1
  have hm : ∀ k, prodS a b k ≤ prodS a b (k + 1) := fun k => Nat.le_add_right _ _
  have h5 : prodS a b (j + 1) ≤ prodS a b 8 := by
    rcases (by omega : j = 4 ∨ j = 5 ∨ j = 6 ∨ j = 7) with rfl | rfl | rfl | rfl
    · exact Nat.le_trans (hm 5) (Nat.le_trans (hm 6) (hm 7))
    · exact Nat.le_trans (hm 6) (hm 7)
    · exact hm 7
    · exact Nat.le_refl _
  have h6 : 65536 ^ 4 ≤ 65536 ^ j := Nat.pow_le_pow_right (by decide) h4
  have h7 : 1 * 65536 ^ j ≤ dgt a b j * 65536 ^ j := Nat.mul_le_mul_right _ (by omega)
  have h9 : prodS a b (j + 1) = prodS a b j + dgt a b j * 65536 ^ j := rfl
  have h10 : prodS a b 8 ≤ a * b := h1 ▸ Nat.le_add_right _ _
  rw [h9] at h5
  rw [Nat.one_mul] at h7
  exact Nat.le_trans (Nat.le_trans h6 h7) (Nat.le_trans (Nat.le_add_left _ _) (Nat.le_trans h5 h10))
theorem or_add (p d k : Nat) (hp : p < 65536 ^ k) : p ||| d * 65536 ^ k = p + d * 65536 ^ k := by
  have e : 65536 ^ k = 2 ^ (16 * k) := by rw [Nat.pow_mul]
  rw [e] at hp ⊢
  rw [Nat.or_comm, Nat.mul_comm d, ← Nat.two_pow_add_eq_or_of_lt hp]
  omega
end Go.Proofs.YteclpoooggcdoaaGreatDoor.Nu
/- The program's product of two numbers, digit by digit. -/
namespace Go.Proofs.YteclpoooggcdoaaGreatDoor.Nu
open Go Go.RowKit

theorem u64_small (n : Nat) (h : n < 18446744073709551616) : IntKind.u64.wrap (n : Int) = (n : Int) := by rw [IntKind.wrap_u64]; omega
def timesV (a b : Nat) : Value := if a * b < 18446744073709551616 then .tuple #[.int .u64 ((a * b : Nat) : Int), .bool true] else .tuple #[.int .u64 0, .bool false]
end Go.Proofs.YteclpoooggcdoaaGreatDoor.Nu
/- number's checks and reckonings, where there is more to them. -/
namespace Go.Proofs.YteclpoooggcdoaaGreatDoor.Nu
open Go Go.RowKit
attribute [local go_sem] Oper.semAt_some

theorem tmod_in (x y : Int) (hy : In y) : In (y.tmod x) := by
  have h1 : (y.tmod x).natAbs = y.natAbs % x.natAbs := Int.natAbs_tmod y x
  have h2 : y.natAbs % x.natAbs ≤ y.natAbs := Nat.mod_le _ _
  rcases Int.le_total 0 y with h | h
  · have := Int.tmod_nonneg x h
    omega
  · have : (y.tmod x) ≤ 0 := by
      have h3 := Int.tmod_nonneg x (show 0 ≤ -y by omega)
      rw [Int.neg_tmod] at h3
      omega
    omega
theorem res_eq (x y : Int) (hx : x ≠ 0) : (y.tmod x = 0 → y.fmod x = 0) ∧ (y.tmod x ≠ 0 → decide (y.tmod x < 0) = decide (x < 0) → y.fmod x = y.tmod x) ∧ (y.tmod x ≠ 0 → ¬ decide (y.tmod x < 0) = decide (x < 0) → y.fmod x = y.tmod x + x) := by
  have h1 := Int.mul_tdiv_add_tmod y x
  have h2 := Int.mul_fdiv_add_fmod y x
  have h3 : (y.tmod x).natAbs < x.natAbs := by rw [Int.natAbs_tmod]; exact Nat.mod_lt _ (by omega)
  generalize y.tmod x = r at *
  have key : ∀ q r : Int, x * q + r = y → (0 < x → 0 ≤ r ∧ r < x) → (x < 0 → x < r ∧ r ≤ 0) → y.fmod x = r := by
    intro q r h ha hb
    rw [← h, Int.add_comm, Int.add_mul_fmod_self_left]
    rcases Int.lt_or_lt_of_ne hx with hn | hp
    · have := hb hn
      rcases Int.le_iff_lt_or_eq.1 this.2 with hr | rfl
      · have e := Int.fmod_eq_of_lt (a := -r) (b := -x) (by omega) (by omega)
        rw [Int.neg_fmod_neg] at e
        omega
      · simp
    · exact Int.fmod_eq_of_lt (ha hp).1 (ha hp).2
  simp only [decide_eq_decide]
  refine ⟨fun h => ?_, fun h0 h => ?_, fun h0 h => ?_⟩
  · subst h
    exact key _ _ h1 (fun h => ⟨Int.le_refl _, h⟩) (fun h => ⟨h, Int.le_refl _⟩)
  · exact key _ _ h1 (fun h => by omega) (fun h => by omega)
  · refine key (y.tdiv x - 1) (r + x) ?_ (fun h => by omega) (fun h => by omega)
    rw [Int.mul_sub, Int.mul_one]
    omega
end Go.Proofs.YteclpoooggcdoaaGreatDoor.Nu
/- number's checks and reckonings, where there is more to them. -/
namespace Go.Proofs.YteclpoooggcdoaaGreatDoor.Nu
open Go Go.RowKit
attribute [local go_sem] Oper.semAt_some

end Go.Proofs.YteclpoooggcdoaaGreatDoor.Nu
