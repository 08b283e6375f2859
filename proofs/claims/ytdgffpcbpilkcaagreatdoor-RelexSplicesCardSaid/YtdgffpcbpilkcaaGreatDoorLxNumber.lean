/- A number: a minus, or none, and digits. -/
import Derived.Test.YtdgffpcbpilkcaaGreatDoorLxOther
import Derived.Deep.RegionHeldLaw
namespace Go.Proofs.YtdgffpcbpilkcaaGreatDoor
open Go Go.RowKit Go.Shelf
attribute [local go_sem] Oper.semAt_some

theorem take_drop_mid (T : List UInt8) (n d : Nat) : (T.take (n + d)).drop n = (T.drop n).take d := by
  rw [List.drop_take, Nat.add_sub_cancel_left]
theorem mz_le (T : List UInt8) : mz T ≤ T.length := by
  unfold mz
  split
  · exact fsz_le T
  · exact Nat.zero_le _

set_option maxRecDepth 100000 in
set_option maxHeartbeats 4000000 in
/-- number(). -/
theorem number_c (T : List UInt8) (hT : T.length ≤ 10000) (w : World) (hG : LG w) :
    Calls Tryz.prog 93 #[.agg #[.string (bs T)]] w fun e W' => e = .returned (tokV (rN T)) ∧ Below w.heap.size w W' := by
  have hz := mz_le T
  have hd := nOf_le isD (T.drop (mz T))
  rw [List.length_drop] at hd
  have hM := fun W h => minus_c T W h
  have hR := fun W => run_c _ isD kind_D (T.drop (mz T)) (by rw [List.length_drop]; omega) W
  obtain ⟨z, hzz⟩ : ∃ z, z = mz T := ⟨_, rfl⟩
  rw [← hzz] at hz hd hM hR
  obtain ⟨d, hdd⟩ : ∃ d, d = nOf isD (T.drop z) := ⟨_, rfl⟩
  change ∀ W, Calls Tryz.prog _ _ W fun e W' => e = .returned (.int .i64 ((nOf isD (T.drop z) : Nat) : Int)) ∧ _ at hR
  rw [← hdd] at hd hR
  obtain ⟨b, hb⟩ : ∃ b, b = z + d := ⟨_, rfl⟩
  have es : (z : Int) + (d : Int) = (b : Int) := by rw [hb]; simp
  obtain ⟨g, hg⟩ : ∃ g, g = bs (mg T) := ⟨_, rfl⟩
  obtain ⟨U, hU⟩ : ∃ U, U = bs (T.take b) := ⟨_, rfl⟩
  obtain ⟨D, hD⟩ : ∃ D, D = bs ((T.drop z).take d) := ⟨_, rfl⟩
  obtain ⟨R, hRR⟩ : ∃ R, R = bs (T.drop z) := ⟨_, rfl⟩
  obtain ⟨G, hGG⟩ : ∃ G, G = bs (short (mg T) ((T.drop z).take d)) := ⟨_, rfl⟩
  have hRN : rN T = if b = 0 then noTk else if d = 0 ∨ 18 < d then ⟨10, T.take b, []⟩ else ⟨3, T.take b, short (mg T) ((T.drop z).take d)⟩ := by rw [hb, hdd, hzz]; rfl
  have hmg : (mg T).length ≤ 10000 := by
    unfold mg glT
    split
    · split
      · rename_i k hk
        have := gl_len k (firstK_some.1 hk).1
        omega
      · simp
    · simp
  have hdl : ((T.drop z).take d).length ≤ 10000 := by rw [List.length_take, List.length_drop]; omega
  have hS := fun W => shortest_c (mg T) ((T.drop z).take d) hmg hdl W
  obtain ⟨s, hs⟩ : ∃ s, s = bs T := ⟨_, rfl⟩
  have hx1 : s.extract z s.size = R := by rw [hs, hRR, ext_drop]
  have hx2 : s.extract z b = D := by rw [hs, hD, ext_mid, hb, take_drop_mid]
  have hJ := fun W => token_k T 10 b [] hT (by omega) s U ⟨#[]⟩ 10 hs hU rfl rfl W
  have hK := fun W => token_k T 3 b (short (mg T) ((T.drop z).take d)) hT (by omega) s U G 3 hs hU hGG rfl W
  have hsz : s.size = T.length := by rw [hs, bs_size]
  rw [← hg, ← hs] at hM
  rw [← hRR] at hR
  rw [← hg, ← hD, ← hGG] at hS
  rw [← hs]
  have hb1 : b ≤ s.size := by omega
  have hz1 : z ≤ s.size := by omega
  have hzb : z ≤ b := by omega
  have hd1 : d ≤ 10000 := by omega
  have hs1 : s.size ≤ 10000 := by omega
  have HZD : Hid (b = 0 → z = 0 ∧ d = 0) := Lib.hid (fun h => by omega)
  obtain ⟨W0, hW0, A0⟩ := at_start w s
  have HM := Lib.hid hM
  have HR := Lib.hid hR
  have HS := Lib.hid hS
  have HJ := Lib.hid hJ
  have HK := Lib.hid hK
  have HU := Lib.hid hU
  have HG := Lib.hid hGG
  obtain ⟨c0, _⟩ := A0.facts
  clear hM hR hS hJ hK hs hU hGG hD hRR hg hzz hdd hmg hdl hsz hz hd hb
  by_cases h0 : b = 0
  · have hz0 : z = 0 := (HZD.out h0).1
    have hd0 : d = 0 := (HZD.out h0).2
    rw [if_pos h0] at hRN
    rw [hRN]
    subst h0 hz0 hd0
    clear hRN es HZD
    have es : (0 : Int) + 0 = 0 := rfl
    go_enter Tryz.func93, Tryz.ntmps93
    go_wp2_with fail
    rw [← hW0]
    go_wp2_with (first
      | (go_at_call 106; refine (HM.out _ (hG.below A0.below).gl).mono ?_; rintro e w1 ⟨rfl, hb1⟩; have A1 := A0.next hb1; obtain ⟨c1, d10, d11, d12, f10, f11, f12⟩ := A1.facts; clear hb1)
      | (go_at_call 100; refine (HR.out _).mono ?_; rintro e w2 ⟨rfl, hb2⟩; have A2 := A1.next hb2; obtain ⟨c2, d20, d21, d22, f20, f21, f22⟩ := A2.facts; clear hb2))
    exact tok_ret (j := 2) rfl rfl rfl (tok_set A2.tok _ _ _) (by simp [tokC, noTk, bs_nil]) ⟨rfl, A2.below3 _ _ _⟩
  rw [if_neg h0] at hRN
  have hne : ((b : Int) == 0) = false := by simp; exact h0
  by_cases hd0 : d = 0
  · rw [if_pos (.inl hd0)] at hRN
    rw [hRN]
    have hde : ((d : Int) == 0) = true := by simp; exact hd0
    clear hRN h0 hd0
    go_enter Tryz.func93, Tryz.ntmps93
    go_wp2_with fail
    rw [← hW0]
    go_wp2_with (first
      | (go_at_call 106; refine (HM.out _ (hG.below A0.below).gl).mono ?_; rintro e w1 ⟨rfl, hb1⟩; have A1 := A0.next hb1; obtain ⟨c1, d10, d11, d12, f10, f11, f12⟩ := A1.facts; clear hb1)
      | (go_at_call 100; refine (HR.out _).mono ?_; rintro e w2 ⟨rfl, hb2⟩; have A2 := A1.next hb2; obtain ⟨c2, d20, d21, d22, f20, f21, f22⟩ := A2.facts; clear hb2)
      | (go_at_call 102; refine (HJ.out _).mono ?_; rintro e w3 ⟨rfl, hb3⟩; have A3 := A2.next hb3; obtain ⟨c3, d30, d31, d32, f30, f31, f32⟩ := A3.facts; clear hb3))
    exact tok_ret (j := 2) rfl rfl rfl (tok_set A3.tok _ _ _) (by simp [tokC, bs_nil, HU.out]) ⟨rfl, A3.below3 _ _ _⟩
  have hde : ((d : Int) == 0) = false := by simp; exact hd0
  by_cases h18 : 18 < d
  · rw [if_pos (.inr h18)] at hRN
    rw [hRN]
    have hgt : decide ((18 : Int) < d) = true := by simp; omega
    clear hRN h0 hd0 h18
    go_enter Tryz.func93, Tryz.ntmps93
    go_wp2_with fail
    rw [← hW0]
    go_wp2_with (first
      | (go_at_call 106; refine (HM.out _ (hG.below A0.below).gl).mono ?_; rintro e w1 ⟨rfl, hb1⟩; have A1 := A0.next hb1; obtain ⟨c1, d10, d11, d12, f10, f11, f12⟩ := A1.facts; clear hb1)
      | (go_at_call 100; refine (HR.out _).mono ?_; rintro e w2 ⟨rfl, hb2⟩; have A2 := A1.next hb2; obtain ⟨c2, d20, d21, d22, f20, f21, f22⟩ := A2.facts; clear hb2)
      | (go_at_call 102; refine (HJ.out _).mono ?_; rintro e w3 ⟨rfl, hb3⟩; have A3 := A2.next hb3; obtain ⟨c3, d30, d31, d32, f30, f31, f32⟩ := A3.facts; clear hb3))
    exact tok_ret (j := 2) rfl rfl rfl (tok_set A3.tok _ _ _) (by simp [tokC, bs_nil, HU.out]) ⟨rfl, A3.below3 _ _ _⟩
  · rw [if_neg (fun h => h.elim hd0 h18)] at hRN
    rw [hRN]
    have hgt : decide ((18 : Int) < d) = false := by simp; omega
    clear hRN h0 hd0 h18
    go_enter Tryz.func93, Tryz.ntmps93
    go_wp2_with fail
    rw [← hW0]
    go_wp2_with (first
      | (go_at_call 106; refine (HM.out _ (hG.below A0.below).gl).mono ?_; rintro e w1 ⟨rfl, hb1⟩; have A1 := A0.next hb1; obtain ⟨c1, d10, d11, d12, f10, f11, f12⟩ := A1.facts; clear hb1)
      | (go_at_call 100; refine (HR.out _).mono ?_; rintro e w2 ⟨rfl, hb2⟩; have A2 := A1.next hb2; obtain ⟨c2, d20, d21, d22, f20, f21, f22⟩ := A2.facts; clear hb2))
    have A2d := A2.drew
    have HA2 := Lib.hid A2d
    obtain ⟨c2d, e20, e21, e22, g20, g21, g22⟩ := A2d.facts
    clear A2d
    go_region_held_law (fun w' => w'.cell? ⟨w.heap.size, 0, none⟩ = some (.string s))
      (first
        | exact HA4.out.facts.1
        | exact HA2.out.facts.1
        | go_keep)
      ((first
        | (go_at_call 108; refine (HS.out _).mono ?_; rintro e w3 ⟨rfl, rfl⟩)
        | (go_at_call 102; refine (HK.out _).mono ?_; rintro e w4 ⟨rfl, hb4⟩; have A4 := HA2.out.next hb4; obtain ⟨c4, d40, d41, d42, f40, f41, f42⟩ := A4.facts; have HA4 := Lib.hid A4; clear hb4 A4)))
    go_wp2
    exact tok_ret (j := 2) rfl rfl rfl (tok_set HA4.out.tok _ _ _) (by simp [tokC, HG.out, HU.out]) ⟨rfl, HA4.out.below3 _ _ _⟩
end Go.Proofs.YtdgffpcbpilkcaaGreatDoor
