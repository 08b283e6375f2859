/- The plain rune (by wip/gen/rs_base.py). -/
import Derived.Test.YthbiflmmlcmncaaDoorRsBase
import Derived.Lib.Strings
namespace Go.Proofs.YthbiflmmlcmncaaDoor
namespace Rs.Rp
open Go Go.RowKit

/-- How many bytes a rune has that this byte begins; the least that it may be; what the byte gives. -/
def nOf (x : Nat) : Nat := if 194 ≤ x ∧ x < 224 then 2 else if 224 ≤ x ∧ x < 240 then 3 else if 240 ≤ x ∧ x < 245 then 4 else 1
def leastOf (x : Nat) : Int := if 194 ≤ x ∧ x < 224 then 128 else if 224 ≤ x ∧ x < 240 then 2048 else if 240 ≤ x ∧ x < 245 then 65536 else 0
def valOf (x : Nat) : Int := if 194 ≤ x ∧ x < 224 then (x : Int) - 192 else if 224 ≤ x ∧ x < 240 then (x : Int) - 224 else if 240 ≤ x ∧ x < 245 then (x : Int) - 240 else (x : Int)
/-- What the first k + 1 bytes give. -/
def foldK (T : List UInt8) (v : Int) : Nat → Option Int
  | 0 => some v
  | k + 1 => match foldK T v k, T[k + 1]? with
    | some u, some b => if b.toNat < 128 ∨ 191 < b.toNat then none else some (64 * u + (b.toNat : Int) - 128)
    | _, _ => none
theorem foldK_none {T : List UInt8} {v : Int} {k : Nat} (h : foldK T v k = none) : ∀ d, foldK T v (k + d) = none
  | 0 => h
  | d + 1 => by
    have := foldK_none h d
    show foldK T v (k + d + 1) = none
    unfold foldK
    rw [this]
/-- Is it no rune? -/
def badRune (least v : Int) : Bool := decide (v < least ∨ 1114111 < v ∨ (55296 ≤ v ∧ v ≤ 57343))
/-- How many bytes the rune has that bytes begin with. -/
def stepOf (T : List UInt8) : Nat :=
  match T[0]? with
  | none => 0
  | some b => if T.length < nOf b.toNat then 1 else
    match foldK T (valOf b.toNat) (nOf b.toNat - 1) with
    | none => 1
    | some v => if 1 < nOf b.toNat ∧ badRune (leastOf b.toNat) v = true then 1 else nOf b.toNat

set_option maxRecDepth 100000 in
theorem rstep_nil (w : World) : Calls Tryd.prog 54 #[.string ⟨#[]⟩] w fun e W' => e = .returned (.int .i64 0) ∧ w = W' := by
  go_enter Tryd.func54, Tryd.ntmps54
  go_wp2
  go_ret
  exact ⟨rfl, rfl⟩

theorem nonempty (s : ByteArray) (h : 0 < s.size) : s.toList.isEmpty = false := by
  cases hs : s.toList with
  | nil => exact absurd (by rw [Lib.size_eq, ← ByteArray.toList_eq, hs]; rfl : s.size = 0) (by omega)
  | cons x l => rfl

set_option maxHeartbeats 2000000 in
set_option maxRecDepth 100000 in
theorem rstep_low (w : World) (s : ByteArray) (h0 : 0 < s.size) (hm : s.size ≤ 10000) (hx : s[0].toNat < 194) :
    Calls Tryd.prog 54 #[.string s] w fun e W' => e = .returned (.int .i64 1) ∧ w = W' := by
  have hne : s.toList.isEmpty = false := nonempty s h0
  have a1 : ¬ 194 ≤ (s[0].toNat : Int) := by omega
  have a2 : ¬ 224 ≤ (s[0].toNat : Int) := by omega
  have a3 : ¬ 240 ≤ (s[0].toNat : Int) := by omega
  clear hx
  have hone : ¬ s.size < 1 := by omega
  go_enter Tryd.func54, Tryd.ntmps54
  go_wp2
  go_loopw [6] (fun i wr => i = .int .i64 1 ∧ wr = w) (fun _ _ => 0)
  case atStart => exact ⟨rfl, rfl⟩
  case round =>
    obtain ⟨rfl, rfl⟩ := hrel
    go_wp2
    go_ret
    exact ⟨rfl, rfl⟩

set_option maxHeartbeats 2000000 in
set_option maxRecDepth 100000 in
theorem rstep_high (w : World) (s : ByteArray) (h0 : 0 < s.size) (hm : s.size ≤ 10000) (hx : 245 ≤ s[0].toNat) :
    Calls Tryd.prog 54 #[.string s] w fun e W' => e = .returned (.int .i64 1) ∧ w = W' := by
  have hne : s.toList.isEmpty = false := nonempty s h0
  have a1 : 194 ≤ (s[0].toNat : Int) := by omega
  have a2 : 224 ≤ (s[0].toNat : Int) := by omega
  have a3 : 240 ≤ (s[0].toNat : Int) := by omega
  have b1 : ¬ (s[0].toNat : Int) < 224 := by omega
  have b2 : ¬ (s[0].toNat : Int) < 240 := by omega
  have b3 : ¬ (s[0].toNat : Int) < 245 := by omega
  clear hx
  have hone : ¬ s.size < 1 := by omega
  go_enter Tryd.func54, Tryd.ntmps54
  go_wp2
  go_loopw [6] (fun i wr => i = .int .i64 1 ∧ wr = w) (fun _ _ => 0)
  case atStart => exact ⟨rfl, rfl⟩
  case round =>
    obtain ⟨rfl, rfl⟩ := hrel
    go_wp2
    go_ret
    exact ⟨rfl, rfl⟩

end Rs.Rp
end Go.Proofs.YthbiflmmlcmncaaDoor
