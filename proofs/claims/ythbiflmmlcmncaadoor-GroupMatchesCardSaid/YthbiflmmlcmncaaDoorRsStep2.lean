/- The plain rune (by wip/gen/rs_base.py). -/
import Derived.Test.YthbiflmmlcmncaaDoorRsStep
import Derived.Lib.Strings
namespace Go.Proofs.YthbiflmmlcmncaaDoor
namespace Rs.Rp
open Go Go.RowKit

set_option maxHeartbeats 4000000 in
set_option maxRecDepth 100000 in
/-- A first byte that promises 2 bytes. -/
theorem rstep_2 (w : World) (s : ByteArray) (h0 : 0 < s.size) (hm : s.size ≤ 10000) (hlo : 194 ≤ s[0].toNat) (hhi : s[0].toNat < 224) (x : Nat)
    (hx : x = if s.size < 2 then 1 else match foldK s.data.toList ((s[0].toNat : Int) - 192) 1 with | none => 1 | some v => if badRune 128 v = true then 1 else 2) :
    Calls Tryd.prog 54 #[.string s] w fun e W' => e = .returned (.int .i64 (x : Int)) ∧ w = W' := by
  have hne : s.toList.isEmpty = false := nonempty s h0
  have a1 : 194 ≤ (s[0].toNat : Int) := by omega
  have a2 : ¬ 224 ≤ (s[0].toNat : Int) := by omega
  have a3 : ¬ 240 ≤ (s[0].toNat : Int) := by omega
  have b9 : (s[0].toNat : Int) < 224 := by omega
  have hb0 : 0 ≤ (s[0].toNat : Int) - 192 ∧ (s[0].toNat : Int) - 192 < 32 := by omega
  have HB0 := Lib.hid hb0
  have HX := Lib.hid hx
  clear hx hb0 hlo hhi
  by_cases hsh : s.size < 2
  · have hx1 : x = 1 := by rw [HX.out, if_pos hsh]
    subst hx1
    clear HX HB0
    go_enter Tryd.func54, Tryd.ntmps54
    go_wp2
    go_ret
    exact ⟨rfl, rfl⟩
  · have hsz : 2 ≤ s.size := by omega
    go_enter Tryd.func54, Tryd.ntmps54
    go_wp2
    go_loopw [5, 6] (fun u i wr => ∃ (k : Nat) (v : Int), k < 2 ∧ u = .int .i64 v ∧ i = .int .i64 ((k + 1 : Nat) : Int) ∧ wr = w ∧ foldK s.data.toList ((s[0].toNat : Int) - 192) k = some v ∧ 0 ≤ v ∧ v < 32 * 64 ^ k)
      (fun _ i _ => 2 - (intOf i).toNat)
    case atStart => exact ⟨0, _, by omega, rfl, rfl, rfl, rfl, HB0.out.1, by simpa using HB0.out.2⟩
    case round =>
      obtain ⟨k, v, hk, rfl, rfl, rfl, hf, hv0, hv1⟩ := hrel
      have HF := Lib.hid hf
      clear hf
      by_cases hk0 : k = 0
      · subst hk0
        have hlt : 1 < s.size := by omega
        have hv1' : v < 32 := by simpa using hv1
        by_cases c1 : s[1].toNat < 128
        · have hx1 : x = 1 := by
            have hn : foldK s.data.toList ((s[0].toNat : Int) - 192) 1 = none := by unfold foldK; rw [HF.out, byte_at s 1 hlt]; exact if_pos (.inl c1)
            rw [HX.out, if_neg hsh, show (1 : Nat) = 1 + 0 from rfl, foldK_none hn]
          subst hx1
          clear HX HF HB0 hv1
          go_wp2
          go_ret
          exact ⟨rfl, rfl⟩
        · by_cases c2 : 191 < s[1].toNat
          · have hx1 : x = 1 := by
              have hn : foldK s.data.toList ((s[0].toNat : Int) - 192) 1 = none := by unfold foldK; rw [HF.out, byte_at s 1 hlt]; exact if_pos (.inr c2)
              rw [HX.out, if_neg hsh, show (1 : Nat) = 1 + 0 from rfl, foldK_none hn]
            subst hx1
            clear HX HF HB0 hv1
            go_wp2
            go_ret
            exact ⟨rfl, rfl⟩
          · have hn : foldK s.data.toList ((s[0].toNat : Int) - 192) 1 = some (64 * v + (s[1].toNat : Int) - 128) := by unfold foldK; rw [HF.out, byte_at s 1 hlt]; exact if_neg (by omega)
            have HN := Lib.hid hn
            have hb1 : 0 ≤ 64 * v + (s[1].toNat : Int) - 128 ∧ 64 * v + (s[1].toNat : Int) - 128 < 2048 := by omega
            have HB1 := Lib.hid hb1
            clear hb1 hn hv1
            go_wp2
            go_roundw
            case rel => exact ⟨1, 64 * v + (s[1].toNat : Int) - 128, by omega, by first | rfl | trivial, by first | rfl | trivial | go_num, by first | rfl | trivial, HN.out, HB1.out.1, by simpa using HB1.out.2⟩
            case measure => simp [intOf]
      obtain rfl : k = 1 := by omega
      have hxv : x = if badRune 128 v = true then 1 else 2 := by rw [HX.out, if_neg hsh, HF.out]
      by_cases hbad : v < 128 ∨ 1114111 < v ∨ (55296 ≤ v ∧ v ≤ 57343)
      · have hx1 : x = 1 := by rw [hxv, if_pos (show badRune 128 v = true from decide_eq_true hbad)]
        subst hx1
        clear hxv HX HF HB0
        by_cases c1 : v < 128
        · go_wp2
          go_ret
          exact ⟨rfl, rfl⟩
        · by_cases c2 : 1114111 < v
          · go_wp2
            go_ret
            exact ⟨rfl, rfl⟩
          · have c3 : 55296 ≤ v := by omega
            have c4 : v ≤ 57343 := by omega
            go_wp2
            go_ret
            exact ⟨rfl, rfl⟩
      · have hx1 : x = 2 := by rw [hxv, if_neg (fun e : badRune 128 v = true => hbad (of_decide_eq_true e))]
        subst hx1
        clear hxv HX HF HB0
        have c1 : ¬ v < 128 := by omega
        have c2 : ¬ 1114111 < v := by omega
        by_cases c3 : 55296 ≤ v
        · have c4 : ¬ v ≤ 57343 := by omega
          go_wp2
          go_ret
          exact ⟨rfl, rfl⟩
        · go_wp2
          go_ret
          exact ⟨rfl, rfl⟩

end Rs.Rp
end Go.Proofs.YthbiflmmlcmncaaDoor
