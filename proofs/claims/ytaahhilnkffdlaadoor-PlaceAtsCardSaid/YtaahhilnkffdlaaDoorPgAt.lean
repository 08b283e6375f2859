/- place.At: the line that a place is in, and its column. -/
import Derived.Test.YtaahhilnkffdlaaDoorPgOff
import Derived.Test.YtaahhilnkffdlaaDoorPgHold
namespace Go.Proofs.YtaahhilnkffdlaaDoor
open Go Go.RowKit

/-- What At tells. -/
def AtOut (T : List UInt8) (at_ u : Int) (v : Value) : Prop :=
  (isUnit u = false ∧ v = .tuple #[.int .i64 0, .int .i64 0, .int .i64 2]) ∨ (isUnit u = true ∧
    ((∃ k r : Nat, k < nlines T ∧ r ≤ rnds (lineT T k) u ∧ ((lineAt T k + posK (lineT T k) u r : Nat) : Int) = at_ ∧ v = .tuple #[.int .i64 (k : Int), .int .i64 ((colK (lineT T k) u r : Nat) : Int), .int .i64 0]) ∨
     ((∀ k r : Nat, k < nlines T → r ≤ rnds (lineT T k) u → ((lineAt T k + posK (lineT T k) u r : Nat) : Int) ≠ at_) ∧ v = .tuple #[.int .i64 0, .int .i64 0, .int .i64 20])))

theorem lineT_len (T : List UInt8) (k : Nat) : (lineT T k).length = lineEnd T k - lineAt T k := by
  unfold lineT
  rw [List.length_take, List.length_drop]
  have := lineEnd_le T k
  omega
/-- A place of a line's rounds lies in the line. -/
theorem place_in {T : List UInt8} {k r : Nat} {u : Int} (hk : k < nlines T) (hr : r ≤ rnds (lineT T k) u) : lineAt T k ≤ lineAt T k + posK (lineT T k) u r ∧ lineAt T k + posK (lineT T k) u r ≤ lineEnd T k := by
  have h1 := posK_le (rnds_lt (lineT T k) u) hr
  rw [lineT_len] at h1
  have h2 := lineAt_lineEnd T k hk
  omega

set_option maxHeartbeats 1000000 in
set_option maxRecDepth 100000 in
theorem at_nounit (s : ByteArray) (at_ u : Int) (hu : isUnit u = false) (w : World) (hG : Ground w) :
    Calls Tryd.prog 19 #[.string s, .int .i64 at_, .int .i64 u] w fun e W' => e = .returned (.tuple #[.int .i64 0, .int .i64 0, .int .i64 2]) ∧ Below w.heap.size w W' := by
  have HW := fun w => Lib.hid (walk_no s u hu w)
  have HG := Lib.hid hG
  clear hu hG
  go_enter Tryd.func19, Tryd.ntmps19
  go_wp2_with (go_at_call 34; refine (HW _).out.mono ?_; rintro e w1 ⟨rfl, hb1⟩; have HB1 := Lib.hid hb1; clear hb1)
  have hb2 : Below w.heap.size w (w1.alloc (.cells #[.string ⟨#[]⟩, .nilFunc, .nilFunc] 54)) := ((((Below.refl _ w).alloc (Nat.le_refl _) _).trans (HB1.out.mono (by simp))).alloc (by have := HB1.out.size; simp at this; omega) _)
  refine (number_fault 2 wordsU _ (HG.out.below hb2 HG.out.2.2).2.1).mono ?_
  rintro e w3 ⟨rfl, hb3⟩
  have HB2 := Lib.hid (hb2.trans (hb3.mono hb2.size))
  clear hb2 hb3
  go_wp2
  refine bodyPost_ret (v := .tuple #[.int .i64 0, .int .i64 0, .int .i64 2]) (by simp [results, Tryd.f19, go_sem]) rfl ⟨rfl, HB2.out⟩

set_option maxHeartbeats 1000000 in
set_option maxRecDepth 100000 in
/-- At, where no line holds the place. -/
theorem at_nohold (s : ByteArray) (at_ u : Int) (hu : isUnit u = true) (hh : ∀ w, Calls Tryd.prog 35 #[.agg #[.string s], .int .i64 at_] w fun e W' => e = .returned (.tuple #[.int .i64 0, .agg #[.int .i64 0, .int .i64 0], faultV 20 wordsP]) ∧ Below w.heap.size w W') (w : World) (hG : Ground w) :
    Calls Tryd.prog 19 #[.string s, .int .i64 at_, .int .i64 u] w fun e W' => e = .returned (.tuple #[.int .i64 0, .int .i64 0, .int .i64 20]) ∧ Below w.heap.size w W' := by
  obtain ⟨fs, fw, hU⟩ := unit_of hu
  have HW := fun w => Lib.hid (walk_ok s u fs fw hU w)
  have HH := fun w => Lib.hid (hh w)
  have HG := Lib.hid hG
  clear hu hG hh hU
  go_enter Tryd.func19, Tryd.ntmps19
  go_wp2_with (go_at_call 34; refine (HW _).out.mono ?_; rintro e w1 ⟨rfl, hb1⟩; have hz1 : w.heap.size < w1.heap.size := (by have := hb1.size; simp at this; omega); have rc := (Row.new w 3 #[.int .i64 at_]).below hb1 (by simp); have ca := rc.cell 0; simp at ca; have HB1 := Lib.hid hb1; clear hb1 rc)
  have hb2 : Below w.heap.size w (w1.alloc (.cells #[.string s, .func (.func fs) #[] #[], .func (.func fw) #[] #[]] 54)) := ((((Below.refl _ w).alloc (Nat.le_refl _) _).trans (HB1.out.mono (by simp))).alloc (by omega) _)
  have HB2 := Lib.hid hb2
  clear hb2
  refine (HH _).out.mono ?_
  rintro e w3 ⟨rfl, hb3⟩
  have HB3 := Lib.hid (HB2.out.trans (hb3.mono HB2.out.size))
  clear hb3
  go_wp2_with fail
  have hb4 := HB3.out.alloc (o := .cells #[.int .i64 0, .int .i64 0] 41) HB3.out.size
  refine (number_fault 20 wordsP _ (HG.out.below hb4 HG.out.2.2).2.1).mono ?_
  rintro e w5 ⟨rfl, hb5⟩
  have HB5 := Lib.hid (hb4.trans (hb5.mono hb4.size))
  clear hb4 hb5
  go_wp2
  refine bodyPost_ret (v := .tuple #[.int .i64 0, .int .i64 0, .int .i64 20]) (by simp [results, Tryd.f19, go_sem]) rfl ⟨rfl, HB5.out⟩

set_option maxHeartbeats 2000000 in
set_option maxRecDepth 100000 in
/-- At, where a line holds the place. -/
theorem at_in (s : ByteArray) (hs : s.size ≤ 600) (at_ k : Nat) (hk : k < nlines s.data.toList) (hk1 : at_ ≤ lineEnd s.data.toList k) (hk2 : ∀ q, q < k → lineEnd s.data.toList q < at_)
    (hh : ∀ w, Calls Tryd.prog 35 #[.agg #[.string s], .int .i64 (at_ : Int)] w fun e W' => e = .returned (.tuple #[.int .i64 (k : Int), .agg #[.int .i64 ((lineAt s.data.toList k : Nat) : Int), .int .i64 ((lineEnd s.data.toList k : Nat) : Int)], .nilIface]) ∧ Below w.heap.size w W') (u : Int) (hu : isUnit u = true) (w : World) (hG : Ground w) :
    Calls Tryd.prog 19 #[.string s, .int .i64 (at_ : Int), .int .i64 u] w fun e W' => (∃ v, e = .returned v ∧ AtOut s.data.toList (at_ : Int) u v) ∧ Below w.heap.size w W' := by
  obtain ⟨fs, fw, hU⟩ := unit_of hu
  obtain ⟨a, ha⟩ : ∃ a, a = lineAt s.data.toList k := ⟨_, rfl⟩
  obtain ⟨b, hb⟩ : ∃ b, b = lineEnd s.data.toList k := ⟨_, rfl⟩
  have hab : a ≤ b := by rw [ha, hb]; exact lineAt_lineEnd _ _ hk
  have hbs : b ≤ s.size := by rw [hb, Lib.size_eq]; exact lineEnd_le _ _
  rw [← ha, ← hb] at hh
  have HW := fun w => Lib.hid (walk_ok s u fs fw hU w)
  have HH := fun w => Lib.hid (hh w)
  obtain ⟨T, hT⟩ : ∃ T, T = lineT s.data.toList k := ⟨_, rfl⟩
  have hTe : T = (s.extract a b).data.toList := by rw [hT]; exact lineT_ext s k a b ha hb
  have HFI := fun (Bv : Nat) (w : World) (hv : w.cell? ⟨Bv, 0, none⟩ = some (.int .i64 (at_ : Int))) (hbv : Bv < w.heap.size) (hGw : Ground w) => Lib.hid (find_c fs fw u (measure_of hU) s hs a b hab hbs T hTe (rnds T u) (rnds_end T u) (rnds_lt T u) 36 Bv (fun r => ((a + posK T u r : Nat) : Int)) (at_ : Int) (fun i j hij hj => by have := posK_up (rnds_lt T u) hij hj; show ((a + posK T u i : Nat) : Int) < ((a + posK T u j : Nat) : Int); omega) w (order_at w Bv (at_ : Int) (rnds T u) a T u hv hbv) (by have := hGw.2.2; omega) (by have := hGw.2.2; omega) hGw.1)
  have HA := Lib.hid ha
  have HT := Lib.hid hT
  have HG := Lib.hid hG
  have HU := Lib.hid hu
  have HK := Lib.hid hk
  have HK1 := Lib.hid hk1
  have HK2 := Lib.hid hk2
  clear ha hb hTe hT hG hu hU hh hk hk1 hk2
  go_enter Tryd.func19, Tryd.ntmps19
  go_wp2_with (go_at_call 34; refine (HW _).out.mono ?_; rintro e w1 ⟨rfl, hb1⟩; have hz1 : w.heap.size < w1.heap.size := (by have := hb1.size; simp at this; omega); have rc := (Row.new w 3 #[.int .i64 (at_ : Int)]).below hb1 (by simp); have ca := rc.cell 0; simp at ca; have RC := Lib.hid rc; have HB1 := Lib.hid hb1; clear hb1 rc)
  have hb2 : Below w.heap.size w (w1.alloc (.cells #[.string s, .func (.func fs) #[] #[], .func (.func fw) #[] #[]] 54)) := ((((Below.refl _ w).alloc (Nat.le_refl _) _).trans (HB1.out.mono (by simp))).alloc (by omega) _)
  have HB2 := Lib.hid hb2
  clear hb2
  refine (HH _).out.mono ?_
  rintro e w3 ⟨rfl, hb3⟩
  have rc3 := (RC.out.alloc (.cells #[.string s, .func (.func fs) #[] #[], .func (.func fw) #[] #[]] 54)).below hb3 (by rw [World.size_alloc]; omega)
  have rw3 := (Row.new w1 54 #[.string s, .func (.func fs) #[] #[], .func (.func fw) #[] #[]]).below hb3 (by rw [World.size_alloc]; omega)
  have hz3 : w1.heap.size < w3.heap.size := by have := hb3.size; rw [World.size_alloc] at this; omega
  clear ca
  have cw0 := rw3.cell 0
  have cw1 := rw3.cell 1
  have cw2 := rw3.cell 2
  simp at cw0 cw1 cw2
  have HB3 := Lib.hid (HB2.out.trans (hb3.mono HB2.out.size))
  have RC3 := Lib.hid rc3
  clear hb3 rc3 rw3
  go_wp2_with fail
  have hb4 := HB3.out.alloc (o := .cells #[.int .i64 (a : Int), .int .i64 (b : Int)] 41) HB3.out.size
  have hG4 := HG.out.below hb4 HG.out.2.2
  refine (HFI w.heap.size _ (by have := (RC3.out.alloc (.cells #[.int .i64 (a : Int), .int .i64 (b : Int)] 41)).cell 0; simpa using this) (by rw [World.size_alloc]; omega) hG4).out.mono ?_
  clear HFI HW HH
  rintro e w5 ⟨⟨val, rfl, hF⟩, hb5⟩
  have hG5 := hG4.below hb5 hG4.2.2
  have HB5 := Lib.hid (hb4.trans (hb5.mono hb4.size))
  have HG5 := Lib.hid hG5
  clear hb4 hb5 hG4 hG5
  rcases hF with ⟨r, hr, hfr, rfl⟩ | ⟨hno, rfl⟩
  · have HR := Lib.hid hr
    have HFR := Lib.hid hfr
    clear hr hfr
    obtain ⟨p, hp⟩ : ∃ p, p = a + posK T u r := ⟨_, rfl⟩
    obtain ⟨c, hc⟩ : ∃ c, c = colK T u r := ⟨_, rfl⟩
    rw [← hp, ← hc]
    have HP := Lib.hid hp
    have HC := Lib.hid hc
    clear hp hc
    go_wp2
    go_region
    all_goals
      go_wp2
      refine bodyPost_ret (v := .tuple #[.int .i64 (k : Int), .int .i64 (c : Int), .int .i64 0]) (by simp [results, Tryd.f19, go_sem]) rfl ⟨⟨_, rfl, .inr ⟨HU.out, .inl ⟨k, r, HK.out, by rw [← HT.out]; exact HR.out, by rw [← HT.out, ← HA.out]; exact HFR.out, by rw [← HT.out, ← HC.out]⟩⟩⟩, ?_⟩
      exact (HB5.out.alloc HB5.out.size _).drew
  · have HNO := Lib.hid hno
    clear hno
    go_wp2_with fail
    have hb6 := HB5.out.alloc (o := .cells #[.int .i64 0, .int .i64 0] 58) HB5.out.size
    refine (number_fault 20 wordsP _ (HG.out.below hb6 HG.out.2.2).2.1).mono ?_
    rintro e w7 ⟨rfl, hb7⟩
    have HB7 := Lib.hid (hb6.trans (hb7.mono hb6.size))
    clear hb6 hb7
    go_wp2
    refine bodyPost_ret (v := .tuple #[.int .i64 0, .int .i64 0, .int .i64 20]) (by simp [results, Tryd.f19, go_sem]) rfl ⟨⟨_, rfl, .inr ⟨HU.out, .inr ⟨fun k' r hk' hr => ?_, rfl⟩⟩⟩, HB7.out⟩
    have hin := place_in hk' hr
    rcases Nat.lt_trichotomy k' k with h1 | h1 | h1
    · have := HK2.out k' h1; omega
    · subst h1
      rw [← HT.out] at hr ⊢
      rw [← HA.out]
      exact HNO.out r hr
    · have := lineAt_up s.data.toList h1 hk'
      have := HK1.out
      omega

/-- AT, OF ANYTHING. -/
theorem at_c (s : ByteArray) (hs : s.size ≤ 600) (at_ u : Int) (w : World) (hG : Ground w) :
    Calls Tryd.prog 19 #[.string s, .int .i64 at_, .int .i64 u] w fun e W' => (∃ v, e = .returned v ∧ AtOut s.data.toList at_ u v) ∧ Below w.heap.size w W' := by
  by_cases hu : isUnit u = true
  · by_cases hn : 0 ≤ at_
    · obtain ⟨n, rfl⟩ : ∃ n : Nat, at_ = (n : Int) := ⟨at_.toNat, by omega⟩
      by_cases hex : ∃ k, k < nlines s.data.toList ∧ n ≤ lineEnd s.data.toList k ∧ ∀ q, q < k → lineEnd s.data.toList q < n
      · obtain ⟨k, hk, hk1, hk2⟩ := hex
        refine at_in s hs n k hk hk1 hk2 (fun w => (holding_c s hs n w).mono ?_) u hu w hG
        rintro e w' ⟨⟨v, rfl, hH⟩, hb⟩
        refine ⟨?_, hb⟩
        rcases hH with ⟨k', h1, h2, h3, rfl⟩ | ⟨h1, rfl⟩
        · have : k' = k := by
            rcases Nat.lt_trichotomy k' k with h | h | h
            · have := hk2 k' h; omega
            · exact h
            · have := h3 k h; omega
          rw [this]
        · have := h1 k hk; omega
      · have hall : ∀ k, k < nlines s.data.toList → lineEnd s.data.toList k < n := by
          have key : ∀ m k, k < m → k < nlines s.data.toList → lineEnd s.data.toList k < n := by
            intro m
            induction m with
            | zero => intro k hk; omega
            | succ m ih =>
              intro k hk hkn
              apply Classical.byContradiction
              intro hlt
              exact hex ⟨k, hkn, by omega, fun q hq => ih q (by omega) (by omega)⟩
          exact fun k hk => key (k + 1) k (by omega) hk
        refine (at_nohold s n u hu (fun w => (holding_c s hs n w).mono ?_) w hG).mono ?_
        · rintro e w' ⟨⟨v, rfl, hH⟩, hb⟩
          refine ⟨?_, hb⟩
          rcases hH with ⟨k', h1, h2, _, rfl⟩ | ⟨h1, rfl⟩
          · have := hall k' h1; omega
          · rfl
        · rintro e w' ⟨rfl, hb⟩
          refine ⟨⟨_, rfl, .inr ⟨hu, .inr ⟨fun k r hk hr => ?_, rfl⟩⟩⟩, hb⟩
          have := place_in hk hr
          have := hall k hk
          omega
    · refine (at_nohold s at_ u hu (fun w => holding_neg s at_ (by omega) w) w hG).mono ?_
      rintro e w' ⟨rfl, hb⟩
      exact ⟨⟨_, rfl, .inr ⟨hu, .inr ⟨fun k r _ _ => by omega, rfl⟩⟩⟩, hb⟩
  · have hu' : isUnit u = false := by simpa using hu
    refine (at_nounit s at_ u hu' w hG).mono ?_
    rintro e w' ⟨rfl, hb⟩
    exact ⟨⟨_, rfl, .inl ⟨hu', rfl⟩⟩, hb⟩
end Go.Proofs.YtaahhilnkffdlaaDoor
