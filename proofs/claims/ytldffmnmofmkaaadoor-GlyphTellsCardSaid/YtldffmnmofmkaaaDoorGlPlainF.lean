/- The plain First. -/
import Derived.Test.YtldffmnmofmkaaaDoorGlPlain
import Derived.BigQuiet
namespace Go.Proofs.YtldffmnmofmkaaaDoor
open Go Go.RowKit

theorem below_dn {B : Nat} {a w : World} (h : Below B a w) (n : Nat) : Below B a (w.drewN n) := h.trans ⟨rfl, rfl, rfl, Nat.le_refl _, fun _ _ => rfl⟩

set_option maxRecDepth 100000 in
set_option maxHeartbeats 4000000 in
theorem rfirst_c (T : List UInt8) (hT : T.length ≤ 10000) (w : World) :
    Calls Tryd.prog 14 #[.string (bs T)] w fun e W' => e = .returned (.tuple #[.string (bs (optG (firstK T))), .int .i64 ((fsz T : Nat) : Int)]) ∧ Below w.heap.size w W' := by
  have hbe := fun p w => begins_c T p hT w
  obtain ⟨s, hs⟩ : ∃ s, s = bs T := ⟨_, rfl⟩
  rw [← hs] at hbe ⊢
  have HBE := Lib.hid hbe
  clear hs hbe
  go_enter Tryd.func14, Tryd.ntmps14
  go_wp2_with (go_at_call 25; refine (table_d _).mono ?_; rintro e w1 ⟨b, rfl, r0, hbg, hb, hB⟩; have HB := Lib.hid hB; clear hB)
  go_loopw [5] (fun i wr => ∃ k : Nat, k ≤ 38 ∧ i = .int .i64 k ∧ wr = w1 ∧ (∀ j, j < k → sz T j = 0))
    (fun i _ => 38 - (intOf i).toNat)
  case atStart => exact ⟨0, Nat.zero_le _, rfl, rfl, fun j hj => by omega⟩
  case round =>
    obtain ⟨k, hk, rfl, rfl, hn⟩ := hrel
    by_cases hlt : k < 38
    · obtain ⟨c1, c2, c3⟩ := r0.at k hlt
      have HN := Lib.hid hn
      have hb1 := HBE.out (gl k)
      have hb2 := HBE.out (di k)
      have hg3 : (bs (gl k)).size ≤ 3 := by rw [bs_size]; exact gl_len k hlt
      have hgz : Hid ((bs (gl k)).size = (gl k).length) := Lib.hid (bs_size _)
      obtain ⟨g, hgd⟩ : ∃ g, g = bs (gl k) := ⟨_, rfl⟩
      obtain ⟨l, hld⟩ : ∃ l, l = bs (le k) := ⟨_, rfl⟩
      have hl1 : l.size ≤ 1 := by rw [hld, bs_size]; unfold le; rw [List.length_drop]; have := di_len k hlt; omega
      rw [← hgd] at c1 hb1 hg3 hgz
      rw [← hld] at c2
      have HLD := Lib.hid hld
      have HGD := Lib.hid hgd
      clear hn hgd hld
      cases hp : Lib.hasPrefix T (gl k) with
      | true =>
        rw [hp] at hb1
        have HB1 := Lib.hid hb1
        have HR : Hid (firstK T = some k ∧ fsz T = (gl k).length) := Lib.hid (by
          have h1 : sz T k = (gl k).length := by unfold sz; rw [if_pos hp]
          have h2 : firstK T = some k := firstK_some.2 ⟨hlt, by rw [h1]; exact fun e => gl_ne k hlt (List.eq_nil_of_length_eq_zero e), HN.out⟩
          exact ⟨h2, by rw [fsz_some h2, h1]⟩)
        clear hp hb1 hb2
        go_wp2_with fail
        refine (HB1.out _).mono ?_
        rintro e w' ⟨rfl, rfl⟩
        go_wp2_with fail
        go_quiet (fail)
        go_wp2
        refine bodyPost_ret (v := .tuple #[.string g, .int .i64 (g.size : Int)]) (by simp [results, Tryd.f14, go_sem]) rfl ⟨by rw [HR.out.1, HR.out.2, HGD.out, bs_size]; rfl, below_dn HB.out _⟩
      | false =>
        rw [hp] at hb1
        have HB1 := Lib.hid hb1
        clear hb1
        by_cases hd : di k = []
        · have hle : l.toList.isEmpty = true := by rw [HLD.out, show le k = [] by unfold le; rw [hd]; rfl]; decide +kernel
          have HS : Hid (sz T k = 0) := Lib.hid (by unfold sz; rw [hp, if_neg (by decide), if_neg (fun h => h.1 hd)])
          clear hd hp hb2
          go_wp2_with fail
          refine (HB1.out _).mono ?_
          rintro e w' ⟨rfl, rfl⟩
          go_wp2
          go_roundw
          case rel => exact ⟨k + 1, by omega, by go_num, trivial, fun j hj => by
            rcases Nat.lt_or_ge j k with h1 | h1
            · exact HN.out j h1
            · obtain rfl : j = k := by omega
              exact HS.out⟩
          case measure => simp [intOf]; omega
        · have hle : l.toList.isEmpty = false := by rw [HLD.out]; exact le_ne k hlt hd
          have hdl : ⟨#[96]⟩ ++ l = bs (di k) := by
            rw [HLD.out, ← le_di k hlt hd]
            have : (⟨#[96]⟩ : ByteArray) = bs [96] := rfl
            rw [this, bs_app']
            rfl
          rw [← hdl] at hb2
          cases hp2 : Lib.hasPrefix T (di k) with
          | true =>
            rw [hp2] at hb2
            have HB2 := Lib.hid hb2
            have HR : Hid (firstK T = some k ∧ fsz T = 2) := Lib.hid (by
              have h1 : sz T k = 2 := by
                unfold sz
                rw [hp, if_neg (by decide), if_pos ⟨hd, hp2⟩]
                rcases di_len k hlt with e | e
                · exact absurd (List.eq_nil_of_length_eq_zero e) hd
                · exact e
              have h2 : firstK T = some k := firstK_some.2 ⟨hlt, by rw [h1]; decide, HN.out⟩
              exact ⟨h2, by rw [fsz_some h2, h1]⟩)
            clear hd hp hb2 hdl hp2
            go_wp2_with fail
            refine (HB1.out _).mono ?_
            rintro e w' ⟨rfl, rfl⟩
            go_wp2_with fail
            refine (HB2.out _).mono ?_
            rintro e w' ⟨rfl, rfl⟩
            go_wp2
            refine bodyPost_ret (v := .tuple #[.string g, .int .i64 2]) (by simp [results, Tryd.f14, go_sem]) rfl ⟨by rw [HR.out.1, HR.out.2, HGD.out]; rfl, HB.out⟩
          | false =>
            rw [hp2] at hb2
            have HB2 := Lib.hid hb2
            have HS : Hid (sz T k = 0) := Lib.hid (by unfold sz; rw [hp, hp2, if_neg (by decide), if_neg (fun h => by cases h.2)])
            clear hd hp hb2 hdl hp2
            go_wp2_with fail
            refine (HB1.out _).mono ?_
            rintro e w' ⟨rfl, rfl⟩
            go_wp2_with fail
            refine (HB2.out _).mono ?_
            rintro e w' ⟨rfl, rfl⟩
            go_wp2
            go_roundw
            case rel => exact ⟨k + 1, by omega, by go_num, trivial, fun j hj => by
              rcases Nat.lt_or_ge j k with h1 | h1
              · exact HN.out j h1
              · obtain rfl : j = k := by omega
                exact HS.out⟩
            case measure => simp [intOf]; omega
    · obtain rfl : k = 38 := by omega
      have hf := firstK_none.2 hn
      have HL : Hid (firstK T = none ∧ fsz T = 0) := Lib.hid ⟨hf, by unfold fsz; rw [hf]⟩
      clear hn hf
      go_wp2
      refine bodyPost_ret (v := .tuple #[.string ⟨#[]⟩, .int .i64 0]) (by simp [results, Tryd.f14, go_sem]) rfl ⟨by rw [HL.out.1, HL.out.2]; rfl, HB.out⟩
end Go.Proofs.YtldffmnmofmkaaaDoor
