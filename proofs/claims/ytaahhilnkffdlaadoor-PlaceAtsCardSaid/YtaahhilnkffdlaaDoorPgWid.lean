/- place.Width: the column of a line's end. -/
import Derived.Test.YtaahhilnkffdlaaDoorPgOrd
import Derived.Deep.RegionHeld
import Derived.BigQuiet
namespace Go.Proofs.YtaahhilnkffdlaaDoor
open Go Go.RowKit

/-- What Width tells. -/
def WidOut (T : List UInt8) (n u : Int) (v : Value) : Prop :=
  (isUnit u = false ∧ v = .tuple #[.int .i64 0, .int .i64 2]) ∨ (isUnit u = true ∧
    ((∃ k : Nat, (k : Int) = n ∧ k < nlines T ∧ v = .tuple #[.int .i64 ((colK (lineT T k) u (rnds (lineT T k) u) : Nat) : Int), .int .i64 0]) ∨
     ((∀ k : Nat, (k : Int) = n → ¬ k < nlines T) ∧ v = .tuple #[.int .i64 0, .int .i64 20])))

set_option maxHeartbeats 1000000 in
set_option maxRecDepth 100000 in
/-- Width, where walkLine tells a fault. -/
theorem wid_fault (s : ByteArray) (n u : Int) (wv : Array Value) (g1 g2 g3 : Value) (hwv : wv = #[g1, g2, g3]) (ln : Array Value) (a b : Int) (hln : ln = #[.int .i64 a, .int .i64 b]) (num : Int) (ws : ByteArray)
    (hw : ∀ w, Calls Tryd.prog 26 #[.string s, .int .i64 n, .int .i64 u] w fun e W' => e = .returned (.tuple #[.agg wv, .agg ln, faultV num ws]) ∧ Below w.heap.size w W') (h1 : g1.oneCell' = true) (h2 : g2.oneCell' = true) (h3 : g3.oneCell' = true) (w : World) (hG : Ground w) :
    Calls Tryd.prog 14 #[.string s, .int .i64 n, .int .i64 u] w fun e W' => e = .returned (.tuple #[.int .i64 0, .int .i64 num]) ∧ Below w.heap.size w W' := by
  subst hwv
  subst hln
  have HW := fun w => Lib.hid (hw w)
  have HG := Lib.hid hG
  have s1 : ∀ (W : World) (a : Addr) (m : Mode), (store a g1 m).run Tryd.prog W = stored Tryd.prog W a g1 m := fun W a m => run_store Tryd.prog W a g1 m h1
  have s2 : ∀ (W : World) (a : Addr) (m : Mode), (store a g2 m).run Tryd.prog W = stored Tryd.prog W a g2 m := fun W a m => run_store Tryd.prog W a g2 m h2
  have s3 : ∀ (W : World) (a : Addr) (m : Mode), (store a g3 m).run Tryd.prog W = stored Tryd.prog W a g3 m := fun W a m => run_store Tryd.prog W a g3 m h3
  clear hw hG h1 h2 h3
  go_enter Tryd.func14, Tryd.ntmps14
  go_wp2_with (go_at_call 26; refine (HW _).out.mono ?_; rintro e w1 ⟨rfl, hb1⟩; have HB1 := Lib.hid hb1; clear hb1)
  have hb2 : Below w.heap.size w ((w1.alloc (.cells #[g1, g2, g3] 54)).alloc (.cells #[.int .i64 a, .int .i64 b] 41)) := (HB1.out.alloc HB1.out.size _).alloc (by have := HB1.out.size; simp; omega) _
  refine (number_fault num ws _ (HG.out.below hb2 HG.out.2.2).2.1).mono ?_
  rintro e w3 ⟨rfl, hb3⟩
  have HB2 := Lib.hid (hb2.trans (hb3.mono hb2.size))
  clear hb2 hb3
  go_wp2
  go_ret2
  exact ⟨rfl, HB2.out⟩

set_option maxHeartbeats 2000000 in
set_option maxRecDepth 100000 in
/-- Width, of a line that is there. -/
theorem wid_in (s : ByteArray) (hs : s.size ≤ 600) (k : Nat) (hk : k < nlines s.data.toList) (u : Int) (hu : isUnit u = true) (w : World) (hG : Ground w) :
    Calls Tryd.prog 14 #[.string s, .int .i64 (k : Int), .int .i64 u] w fun e W' => (∃ v, e = .returned v ∧ WidOut s.data.toList (k : Int) u v) ∧ Below w.heap.size w W' := by
  obtain ⟨fs, fw, hU⟩ := unit_of hu
  obtain ⟨a, ha⟩ : ∃ a, a = lineAt s.data.toList k := ⟨_, rfl⟩
  obtain ⟨b, hb⟩ : ∃ b, b = lineEnd s.data.toList k := ⟨_, rfl⟩
  have hab : a ≤ b := by rw [ha, hb]; exact lineAt_lineEnd _ _ hk
  have hbs : b ≤ s.size := by rw [hb, Lib.size_eq]; exact lineEnd_le _ _
  have HW := fun w => Lib.hid (walkLine_ok s hs k a b hk ha hb u fs fw hU w)
  obtain ⟨T, hT⟩ : ∃ T, T = lineT s.data.toList k := ⟨_, rfl⟩
  have hTe : T = (s.extract a b).data.toList := by rw [hT]; exact lineT_ext s k a b ha hb
  have HFI := fun (Bv : Nat) (w : World) (hv : w.cell? ⟨Bv, 1, none⟩ = some (.int .i64 (b : Int))) (hbv : Bv < w.heap.size) (hGw : Ground w) => Lib.hid (find_c fs fw u (measure_of hU) s hs a b hab hbs T hTe (rnds T u) (rnds_end T u) (rnds_lt T u) 28 Bv (fun r => ((a + posK T u r : Nat) : Int)) (b : Int) (fun i j hij hj => by have := posK_up (rnds_lt T u) hij hj; show ((a + posK T u i : Nat) : Int) < ((a + posK T u j : Nat) : Int); omega) w (order_end w Bv (b : Int) (rnds T u) a T u hv hbv) (by have := hGw.2.2; omega) (by have := hGw.2.2; omega) hGw.1)
  have HTL : Hid (T.length = b - a) := Lib.hid (by rw [hTe]; exact ext_len s a b hbs)
  have HA := Lib.hid ha
  have HT := Lib.hid hT
  have HG := Lib.hid hG
  have HU := Lib.hid hu
  clear ha hb hTe hT hG hu hU
  go_enter Tryd.func14, Tryd.ntmps14
  go_wp2_with (go_at_call 26; refine (HW _).out.mono ?_; rintro e w1 ⟨rfl, hb1⟩; have HB1 := Lib.hid hb1; clear hb1)
  have rc : Row ((w1.alloc (.cells #[.string s, .func (.func fs) #[] #[], .func (.func fw) #[] #[]] 54)).alloc (.cells #[.int .i64 (a : Int), .int .i64 (b : Int)] 41)) (w1.heap.size + 1) 41 #[.int .i64 (a : Int), .int .i64 (b : Int)] := Row.at _ _ _ _ (by simp)
  have hb2 : Below w.heap.size w ((w1.alloc (.cells #[.string s, .func (.func fs) #[] #[], .func (.func fw) #[] #[]] 54)).alloc (.cells #[.int .i64 (a : Int), .int .i64 (b : Int)] 41)) := (HB1.out.alloc HB1.out.size _).alloc (by have := HB1.out.size; simp; omega) _
  have hG2 := HG.out.below hb2 HG.out.2.2
  refine (HFI (w1.heap.size + 1) _ (by simp) rc.lt hG2).out.mono ?_
  have HB2 := Lib.hid hb2
  clear hb2 rc HFI HW
  rintro e w3 ⟨⟨val, rfl, hF⟩, hb3⟩
  have hG3 := hG2.below hb3 hG2.2.2
  have HB3 := Lib.hid (HB2.out.trans (hb3.mono HB2.out.size))
  have HG3 := Lib.hid hG3
  clear hb3 hG2 hG3
  have hend := rnds_end T u
  rcases hF with ⟨r, hr, hfr, rfl⟩ | ⟨hno, rfl⟩
  · have hre : r = rnds T u := by
      rcases Nat.lt_or_ge r (rnds T u) with h | h
      · have := rnds_lt T u r h
        have h2 := HTL.out
        have h3 : ((a + posK T u r : Nat) : Int) = (b : Int) := hfr
        omega
      · omega
    have HRE := Lib.hid hre
    clear hr hfr hre hend
    obtain ⟨p, hp⟩ : ∃ p, p = a + posK T u r := ⟨_, rfl⟩
    obtain ⟨c, hc⟩ : ∃ c, c = colK T u r := ⟨_, rfl⟩
    rw [← hp, ← hc]
    have HC := Lib.hid hc
    clear hp hc
    go_wp2
    go_region_with ((go_at_call 24; refine (number_nil _).mono ?_; rintro e w5 ⟨rfl, hb5⟩; have r5 := (Row.new w3 58 #[.int .i64 (p : Int), .int .i64 (c : Int)]).drew.below hb5 (by simp); have x5 := r5.cell 1; simp at x5; have HB5 := Lib.hid hb5; clear hb5 r5))
    all_goals
      go_wp2
      go_ret2
      refine ⟨⟨.tuple #[.int .i64 (c : Int), .int .i64 0], rfl, .inr ⟨HU.out, .inl ⟨k, rfl, hk, by rw [← HT.out, HC.out, HRE.out]⟩⟩⟩, ?_⟩
      exact (HB3.out.alloc HB3.out.size _).drew.trans (HB5.out.mono (by have := HB3.out.size; simp; omega))
  · exact absurd (show ((a + posK T u (rnds T u) : Nat) : Int) = (b : Int) by have := HTL.out; omega) (hno _ (Nat.le_refl _))

/-- WIDTH, OF ANYTHING. -/
theorem wid_c (s : ByteArray) (hs : s.size ≤ 600) (n u : Int) (w : World) (hG : Ground w) :
    Calls Tryd.prog 14 #[.string s, .int .i64 n, .int .i64 u] w fun e W' => (∃ v, e = .returned v ∧ WidOut s.data.toList n u v) ∧ Below w.heap.size w W' := by
  by_cases hu : isUnit u = true
  · by_cases hn : 0 ≤ n ∧ n < (nlines s.data.toList : Int)
    · obtain ⟨k, rfl⟩ : ∃ k : Nat, n = (k : Int) := ⟨n.toNat, by omega⟩
      exact wid_in s hs k (by omega) u hu w hG
    · obtain ⟨fs, fw, hU⟩ := unit_of hu
      refine (wid_fault s n u _ _ _ _ rfl _ _ _ rfl 20 wordsP (walkLine_none s hs n (by omega) u fs fw hU) rfl rfl rfl w hG).mono ?_
      rintro e w' ⟨rfl, hb⟩
      exact ⟨⟨_, rfl, .inr ⟨hu, .inr ⟨fun k e hlt => by omega, rfl⟩⟩⟩, hb⟩
  · have hu' : isUnit u = false := by simpa using hu
    refine (wid_fault s n u _ _ _ _ rfl _ _ _ rfl 2 wordsU (walkLine_no s n u hu') rfl rfl rfl w hG).mono ?_
    rintro e w' ⟨rfl, hb⟩
    exact ⟨⟨_, rfl, .inl ⟨hu', rfl⟩⟩, hb⟩
end Go.Proofs.YtaahhilnkffdlaaDoor
