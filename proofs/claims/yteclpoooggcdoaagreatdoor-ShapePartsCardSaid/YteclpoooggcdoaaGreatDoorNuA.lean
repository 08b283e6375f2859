/- Merged by gen/ar_merge.py: NuErr, NuTold, NuMath. -/
import Derived.Test.YteclpoooggcdoaaGreatDoorChecked
import Derived.WalkKit
import Derived.LaidEql
import Derived.Stop.Asserts
import Derived.RowKitTokens
import Derived.Laws.Rows
import Derived.Laws.Tables
import Derived.Laws.CopyOwn
import Derived.RangeFuncRecord
import Derived.Below
import Derived.Lib.Hide
import Derived.Laws.Bits64
/- number's errors: errors.As at its fault, errors.Is at its sentinel; the number of an error (by wip/gen/mknuerr.py). -/
namespace Go.Proofs.YteclpoooggcdoaaGreatDoor.Nu
open Go Go.RowKit Go.Extern.Stop Go.Stop Go.Extern

/-- errors.As(nil, target). -/
theorem as_nil (t : Value) (w : World) :
    Calls Tryz.prog 60 #[.nilIface, t] w fun e w' => e = .returned (.bool false) ∧ w = w' := by
  go_enter Tryz.func60, Tryz.ntmps60
  go_wp2
  go_ret
  exact ⟨rfl, rfl⟩

/-- THE TABLE of the interface error lies where the program's start lays it. -/
def ErrT (w : World) : Prop := w.cell? ⟨0, 0, none⟩ = some (.iface 113 (.agg #[.pointer (some ⟨7, 44, none⟩)])) ∧ 0 < w.heap.size
theorem ErrT.below {n : Nat} {w w' : World} (h : ErrT w) (hb : Below n w w') (hn : 0 < n) : ErrT w' :=
  ⟨(hb.cell (p := ⟨0, 0, none⟩) hn).trans h.1, Nat.lt_of_lt_of_le h.2 hb.size⟩

theorem Tryz.asMethodKind (h : Value) (w : World) : (Go.method 289 113 (.agg #[h]) "Kind").run Tryz.prog w = .ok (144, h) w := by kernel_rfl
theorem as_rlm (z : Sem Value) (f : TypeId → Addr → Nat → Nat → Sem Value) (v : Value) :
    ReflectliteValue.method z f #[v] = (do match ← ReflectliteValue.parts v with | none => z | some (t, a, fl) => f t a fl (fl % 32)) := rfl
theorem Tryz.asMethodElem (h : Value) (w : World) : (Go.method 289 113 (.agg #[h]) "Elem").run Tryz.prog w = .ok (157, .agg #[h]) w := by kernel_rfl
theorem Tryz.asMethodImpl (h : Value) (w : World) : (Go.method 289 113 (.agg #[h]) "Implements").run Tryz.prog w = .ok (158, .agg #[h]) w := by kernel_rfl
theorem Tryz.asMethodAssign (h : Value) (w : World) : (Go.method 289 113 (.agg #[h]) "AssignableTo").run Tryz.prog w = .ok (155, .agg #[h]) w := by kernel_rfl
theorem as_rls (v x : Value) : ReflectliteValue.set #[v, x] = (do
    let (some (dst, a, fl), some (src, b, _)) := (← ReflectliteValue.parts v, ← ReflectliteValue.parts x)
      | unsupported (.noEntry "extern/(internal/reflectlite.Value).Set.zeroValue")
    if fl / ReflectliteValue.flagAddr % 2 == 0 then unsupported (.noEntry "extern/(internal/reflectlite.Value).Set.unaddressable")
    let val ← loadVar src b
    if ← Rtype.directlyAssignable dst src then storeVar dst a val
    else if ← Rtype.implements dst src then
      if (← Rtype.kind src) == 20 then
        match val with
        | .nilIface => unsupported (.noEntry "extern/reflectlite: a nil value of one interface type handed on as a value of another")
        | _ => storeVar dst a val
      else storeVar dst a (.iface src val)
    else panicString ("reflectlite.Set: value of type " ++ (← Rtype.spelt src) ++ " is not assignable to type " ++ (← Rtype.spelt dst))
    pure (.tuple #[])) := rfl
def cmpM : Array Value → Sem Value := Extern.ReflectliteType.method fun t => do Extern.Rtype.noPackHeld "Comparable" t; pure (.bool (← typeInfo t).comparable)
theorem Tryz.isMethodComparable (v : Value) (w : World) : (Go.method 289 113 v "Comparable").run Tryz.prog w = .ok (156, v) w := by kernel_rfl
end Go.Proofs.YteclpoooggcdoaaGreatDoor.Nu
/- number's errors: what callers are told (by wip/gen/mknuerr.py). -/
namespace Go.Proofs.YteclpoooggcdoaaGreatDoor.Nu
open Go Go.RowKit Go.Extern.Stop Go.Stop Go.Extern

end Go.Proofs.YteclpoooggcdoaaGreatDoor.Nu
/- What number's functions make of numbers: plain; what wrapping does. -/
namespace Go.Proofs.YteclpoooggcdoaaGreatDoor.Nu
open Go Go.RowKit

/-- A number of 64 bits. -/
abbrev In (n : Int) : Prop := -9223372036854775808 ≤ n ∧ n ≤ 9223372036854775807
/-- A number, and what is told of it: too great, or nothing. -/
def ovr (n : Int) : Int × Int := if In n then (n, 0) else (0, 100)
def bit (b : Bool) : Int := if b then 1 else 0
def isB (n : Int) : Bool := decide (n = 0 ∨ n = 1)
def divR (x y : Int) : Int × Int := if y = 0 then (if x = 0 then (1, 0) else (0, 101)) else if x.tmod y = 0 then ovr (x.tdiv y) else (0, 101)
def resR (x y : Int) : Int := if x = 0 then y else y.fmod x
def bitsR (x y n : Int) : Int × Int := if isB x && isB y then (n, 0) else (0, 102)
def notR (y : Int) : Int × Int := if isB y then (1 - y, 0) else (0, 102)
/-- Which of the fifteen. -/
def dyN (k : Nat) (x y : Int) : Int × Int := match k with
  | 0 => ovr (x + y)
  | 1 => ovr (x - y)
  | 2 => ovr (x * y)
  | 3 => divR x y
  | 4 => (max x y, 0)
  | 5 => (min x y, 0)
  | 6 => (resR x y, 0)
  | 7 => (bit (decide (x = y)), 0)
  | 8 => (bit (decide (x ≠ y)), 0)
  | 9 => (bit (decide (x < y)), 0)
  | 10 => (bit (decide (y < x)), 0)
  | 11 => (bit (decide (x ≤ y)), 0)
  | 12 => (bit (decide (y ≤ x)), 0)
  | 13 => bitsR x y (min x y)
  | 14 => bitsR x y (max x y)
  | _ => (0, 102)
def dyG : Nat → ByteArray
  | 0 => ⟨#[43]⟩
  | 1 => ⟨#[45]⟩
  | 2 => ⟨#[195, 151]⟩
  | 3 => ⟨#[195, 183]⟩
  | 4 => ⟨#[226, 140, 136]⟩
  | 5 => ⟨#[226, 140, 138]⟩
  | 6 => ⟨#[124]⟩
  | 7 => ⟨#[61]⟩
  | 8 => ⟨#[226, 137, 160]⟩
  | 9 => ⟨#[60]⟩
  | 10 => ⟨#[62]⟩
  | 11 => ⟨#[226, 137, 164]⟩
  | 12 => ⟨#[226, 137, 165]⟩
  | 13 => ⟨#[226, 136, 167]⟩
  | 14 => ⟨#[226, 136, 168]⟩
  | _ => ⟨#[]⟩
/-- Which of the eight. -/
def monN (k : Nat) (y : Int) : Int × Int := match k with
  | 0 => (y, 0)
  | 1 => ovr (-y)
  | 2 => (y.sign, 0)
  | 3 => divR 1 y
  | 4 => (y, 0)
  | 5 => (y, 0)
  | 6 => ovr (max y (-y))
  | 7 => notR y
  | _ => (0, 102)
def monG : Nat → ByteArray
  | 0 => ⟨#[43]⟩
  | 1 => ⟨#[45]⟩
  | 2 => ⟨#[195, 151]⟩
  | 3 => ⟨#[195, 183]⟩
  | 4 => ⟨#[226, 140, 136]⟩
  | 5 => ⟨#[226, 140, 138]⟩
  | 6 => ⟨#[124]⟩
  | 7 => ⟨#[126]⟩
  | _ => ⟨#[]⟩
/-- The first k below n whose glyph it is, else n. -/
def whichG (G : Nat → ByteArray) (g : ByteArray) : Nat → Nat → Nat
  | 0, i => i
  | n + 1, i => if g = G i then i else whichG G g n (i + 1)
def whichD (g : ByteArray) : Nat := whichG dyG g 15 0
def whichM (g : ByteArray) : Nat := whichG monG g 8 0

theorem sum_fits {x y : Int} (hx : In x) (hy : In y) : (decide (wrap64 (x + y) < x) == decide (y < 0)) = decide (In (x + y)) := by
  unfold wrap64
  rw [Bool.eq_iff_iff]
  simp only [beq_iff_eq, decide_eq_true_eq, decide_eq_decide]
  omega
theorem dif_fits {x y : Int} (hx : In x) (hy : In y) : (decide (wrap64 (x - y) < x) == decide (0 < y)) = decide (In (x - y)) := by
  unfold wrap64
  rw [Bool.eq_iff_iff]
  simp only [beq_iff_eq, decide_eq_true_eq, decide_eq_decide]
  omega
theorem opp_fits {y : Int} (hy : In y) : (y != -9223372036854775808) = decide (In (-y)) := by
  rw [Bool.eq_iff_iff]
  simp only [bne_iff_ne, decide_eq_true_eq]
  omega
theorem wrap_in {n : Int} (h : In n) : wrap64 n = n := by unfold wrap64; omega
theorem and_u64 (a b : Nat) (ha : a < 18446744073709551616) (hb : b < 18446744073709551616) : bits .and .u64 (a : Int) (b : Int) = ((a &&& b : Nat) : Int) := by
  have hx : a &&& b < 2 ^ 64 := Nat.and_lt_two_pow a (by omega)
  have h1 : (BitVec.ofInt 64 (a : Int)).toNat = a := by rw [BitVec.ofInt_natCast, BitVec.toNat_ofNat]; exact Nat.mod_eq_of_lt (by omega)
  have h2 : (BitVec.ofInt 64 (b : Int)).toNat = b := by rw [BitVec.ofInt_natCast, BitVec.toNat_ofNat]; exact Nat.mod_eq_of_lt (by omega)
  show IntKind.u64.wrap ((BitVec.ofInt 64 (a : Int) &&& BitVec.ofInt 64 (b : Int)).toNat : Int) = _
  rw [BitVec.toNat_and, h1, h2, IntKind.wrap_u64]
  omega
theorem or_u64 (a b : Nat) (ha : a < 18446744073709551616) (hb : b < 18446744073709551616) : bits .or .u64 (a : Int) (b : Int) = ((a ||| b : Nat) : Int) := by
  have hx : a ||| b < 2 ^ 64 := Nat.or_lt_two_pow (by omega) (by omega)
  have h1 : (BitVec.ofInt 64 (a : Int)).toNat = a := by rw [BitVec.ofInt_natCast, BitVec.toNat_ofNat]; exact Nat.mod_eq_of_lt (by omega)
  have h2 : (BitVec.ofInt 64 (b : Int)).toNat = b := by rw [BitVec.ofInt_natCast, BitVec.toNat_ofNat]; exact Nat.mod_eq_of_lt (by omega)
  show IntKind.u64.wrap ((BitVec.ofInt 64 (a : Int) ||| BitVec.ofInt 64 (b : Int)).toNat : Int) = _
  rw [BitVec.toNat_or, h1, h2, IntKind.wrap_u64]
  omega
/-- A digit of 16 bits. -/
def dg (n k : Nat) : Nat := n / 65536 ^ k % 65536
theorem mask_u64 (n : Nat) (h : n < 18446744073709551616) : bits .and .u64 (n : Int) 65535 = ((n % 65536 : Nat) : Int) := by
  rw [show (65535 : Int) = ((65535 : Nat) : Int) from rfl, and_u64 n 65535 h (by omega)]
  congr 1
  exact Nat.and_two_pow_sub_one_eq_mod n 16
theorem dig_div (n d : Nat) (hn : n < 18446744073709551616) : bits .and .u64 ((n : Int) / ((d : Nat) : Int)) 65535 = ((n / d % 65536 : Nat) : Int) := by
  rw [show ((n : Int) / ((d : Nat) : Int)) = ((n / d : Nat) : Int) from (Int.natCast_ediv n d).symm]
  exact mask_u64 _ (Nat.lt_of_le_of_lt (Nat.div_le_self _ _) hn)
theorem big_div (n k : Nat) (hn : n < 18446744073709551616) (hk : 4 ≤ k) : dg n k = 0 := by
  have : 65536 ^ 4 ≤ 65536 ^ k := Nat.pow_le_pow_right (by decide) hk
  unfold dg
  rw [Nat.div_eq_of_lt (by omega)]
end Go.Proofs.YteclpoooggcdoaaGreatDoor.Nu
