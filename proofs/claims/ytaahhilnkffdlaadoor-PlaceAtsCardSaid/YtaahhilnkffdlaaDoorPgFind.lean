/- The place of a line that is looked for. -/
import Derived.Test.YtaahhilnkffdlaaDoorPgStops
import Derived.Test.YtaahhilnkffdlaaDoorPgErr
namespace Go.Proofs.YtaahhilnkffdlaaDoor
open Go Go.RowKit Go.Shelf
attribute [local go_sem] Oper.semAt_some

/-- A walker as a value. -/
abbrev walkV (s : ByteArray) (fs fw : Nat) : Value := .agg #[.string s, .func (.func fs) #[] #[], .func (.func fw) #[] #[]]

/-- w.stops(l): the receiver and the line are boxed; the function value captures the boxes. -/
theorem stops_in (n : Nat) (s : ByteArray) (fs fw : Nat) (a b : Nat) (w : World) :
    CallsIn Fence.wide n Tryd.prog 41 #[walkV s fs fw, .agg #[.int .i64 (a : Int), .int .i64 (b : Int)]] w fun e w' => e = .returned (.func (.func 53) #[] #[.pointer (some ⟨w.heap.size + 1, 0, none⟩), .pointer (some ⟨w.heap.size, 0, none⟩)]) ∧ w' = (w.alloc (.cells #[.string s, .func (.func fs) #[] #[], .func (.func fw) #[] #[]] 54)).alloc (.cells #[.int .i64 (a : Int), .int .i64 (b : Int)] 41) := by
  refine callsIn_of_wp Tryd.func41 rfl trivial ?_ rfl
  simp only [Tryd.ntmps41, List.size_toArray, List.length_cons, List.length_nil, Nat.reduceAdd, Nat.reduceSub, Array.replicate_succ, Array.replicate_zero, List.push_toArray, List.append_toArray, List.nil_append, List.cons_append]
  gi_wp2
  go_ret
  exact ⟨rfl, rfl⟩

theorem stops_stops (n : Nat) (hn : 1 ≤ n) (Bw Bl n₀ n₁ fs fw : Nat) (u : Int) (hM : Measure u fs fw) (s : ByteArray) (hs : s.size ≤ 600) (a b : Nat) (hab : a ≤ b) (hbs : b ≤ s.size)
    (T : List UInt8) (hT : T = (s.extract a b).data.toList) (R : Nat) (hR : posK T u R = T.length) (hq : ∀ q, q < R → posK T u q < T.length) (w : World)
    (hg1 : 2 < n₀) (hg2 : 3 < n₀) (h01 : n₀ ≤ n₁) (hw1 : n₁ ≤ Bw) (hl1 : n₁ ≤ Bl)
    (hBw : Walker w Bw s fs fw) (hBl : Row w Bl 41 #[.int .i64 (a : Int), .int .i64 (b : Int)]) (hTab : Tabs w) :
    SeqStopsB Fence.wide n Tryd.prog 53 #[.pointer (some ⟨Bl, 0, none⟩), .pointer (some ⟨Bw, 0, none⟩)] (encS a T u) (Keeps n₀ n₁) (fun ys : List (Ix (R + 1)) => ys.map (·.1) = List.range (R + 1))
      (fun pre => ∃ k, k ≤ R + 1 ∧ pre.map (·.1) = List.range k) (R + 1) w := fun l J Jx W hW hJ _ hY h0 =>
  stops1_in n hn l Bw Bl n₀ n₁ fs fw u hM s hs a b hab hbs T hT R hR hq J Jx W hJ hg1 hg2 h01 hw1 hl1 hY (Row.below hBw hW hBw.lt) (hBl.below hW hBl.lt) (hTab.below hW (by have := hBw.lt; omega) (by have := hBw.lt; omega)) h0

theorem keepsFrom_below {B : Nat} {W W' : World} (h : Below W.heap.size W W') : KeepsFrom B W W' :=
  ⟨h.size, fun k _ _ ho _ => (h.block k (Array.getElem?_eq_some_iff.1 ho).1).trans ho⟩
theorem keeps_below {n₀ n₁ : Nat} {W W' : World} (h : Below W.heap.size W W') (hn : n₀ ≤ W.heap.size) : Keeps n₀ n₁ W W' :=
  ⟨h.mono hn, fun k _ _ _ _ hc => (h.block k (Array.getElem?_eq_some_iff.1 hc).1).trans hc⟩

/-- What find tells. -/
def Found (f : Nat → Int) (v : Int) (R a : Nat) (T : List UInt8) (u : Int) (val : Value) : Prop :=
  (∃ r, r ≤ R ∧ f r = v ∧ val = .tuple #[.agg #[.int .i64 ((a + posK T u r : Nat) : Int), .int .i64 ((colK T u r : Nat) : Int)], .nilIface]) ∨
  ((∀ r, r ≤ R → f r ≠ v) ∧ val = .tuple #[.agg #[.int .i64 0, .int .i64 0], faultV 20 wordsP])

/-- A comparison, as a function value: of a place, against v. -/
structure Order (w : World) (fo : Nat) (lb : Array Value) (f : Nat → Int) (v : Int) (R a : Nat) (T : List UInt8) (u : Int) : Prop where
  eo : ∀ args w, (callFunc fo args).run Tryd.prog w = .ok (.enter fo args) w
  cmp : ∀ (r : Nat) (W : World), r ≤ R → Below w.heap.size w W → Calls Tryd.prog fo (#[.agg #[.int .i64 ((a + posK T u r : Nat) : Int), .int .i64 ((colK T u r : Nat) : Int)]] ++ lb) W fun e W' => e = .returned (.int .i64 (if f r < v then -1 else if f r = v then 0 else 1)) ∧ Below W.heap.size W W'

set_option maxRecDepth 100000 in
set_option maxHeartbeats 4000000 in
/-- w.find(l, order). -/
theorem find_c (fs fw : Nat) (u : Int) (hM : Measure u fs fw) (s : ByteArray) (hs : s.size ≤ 600) (a b : Nat) (hab : a ≤ b) (hbs : b ≤ s.size)
    (T : List UInt8) (hT : T = (s.extract a b).data.toList) (R : Nat) (hR : posK T u R = T.length) (hq : ∀ q, q < R → posK T u q < T.length) (fo Bv : Nat) (f : Nat → Int) (v : Int) (hmono : ∀ i j, i < j → j ≤ R → f i < f j) (w : World)
    (hO : Order w fo #[.pointer (some ⟨Bv, 0, none⟩)] f v R a T u) (hg1 : 2 < w.heap.size) (hg2 : 3 < w.heap.size) (hTab : Tabs w) :
    Calls Tryd.prog 27 #[walkV s fs fw, .agg #[.int .i64 (a : Int), .int .i64 (b : Int)], .func (.func fo) #[] #[.pointer (some ⟨Bv, 0, none⟩)]] w fun e W' => (∃ val, e = .returned val ∧ Found f v R a T u val) ∧ Below w.heap.size w W' := by
  have HOO := Lib.hid hO.cmp
  have eo := hO.eo
  refine (callsIn_wide (n := 5)).1 ?_
  refine callsIn_of_wp_marks Tryd.func27 rfl trivial ?_ rfl
  simp only [Tryd.ntmps27, List.size_toArray, List.length_cons, List.length_nil, Nat.reduceAdd, Nat.reduceSub, Array.replicate_succ, Array.replicate_zero, List.push_toArray, List.append_toArray, List.nil_append, List.cons_append]
  gi_wp2
  refine wpIn_scope_straight ?_
  gi_wp2
  refine wpIn_label ?_
  gi_wp2_with (refine ⟨trivial, ?_⟩; gi_at_call 41; refine (stops_in _ _ _ _ _ _ _).mono ?_; rintro e w' ⟨rfl, rfl⟩)
  obtain ⟨h, hh⟩ : ∃ h, h = w.heap.size := ⟨_, rfl⟩
  have r2 : Row (((((((w.alloc (.cells #[.string s, .func (.func fs) #[] #[], .func (.func fw) #[] #[]] 54)).alloc (.cells #[.int .i64 (a : Int), .int .i64 (b : Int)] 41)).alloc (.cells #[.func (.func fo) #[] #[.pointer (some ⟨Bv, 0, none⟩)]] 62)).alloc (.cells #[.int .i64 0, .int .i64 0] 58)).alloc (.cells #[.nilIface] 43)).alloc (.cells #[.string s, .func (.func fs) #[] #[], .func (.func fw) #[] #[]] 54)).alloc (.cells #[.int .i64 (a : Int), .int .i64 (b : Int)] 41)) (w.heap.size + 1 + 1) 62 #[.func (.func fo) #[] #[.pointer (some ⟨Bv, 0, none⟩)]] := ((((Row.at _ _ _ _ (by simp)).alloc _).alloc _).alloc _).alloc _
  have r3 : Row (((((((w.alloc (.cells #[.string s, .func (.func fs) #[] #[], .func (.func fw) #[] #[]] 54)).alloc (.cells #[.int .i64 (a : Int), .int .i64 (b : Int)] 41)).alloc (.cells #[.func (.func fo) #[] #[.pointer (some ⟨Bv, 0, none⟩)]] 62)).alloc (.cells #[.int .i64 0, .int .i64 0] 58)).alloc (.cells #[.nilIface] 43)).alloc (.cells #[.string s, .func (.func fs) #[] #[], .func (.func fw) #[] #[]] 54)).alloc (.cells #[.int .i64 (a : Int), .int .i64 (b : Int)] 41)) (w.heap.size + 1 + 1 + 1) 58 #[.int .i64 0, .int .i64 0] := (((Row.at _ _ _ _ (by simp)).alloc _).alloc _).alloc _
  have r4 : Row (((((((w.alloc (.cells #[.string s, .func (.func fs) #[] #[], .func (.func fw) #[] #[]] 54)).alloc (.cells #[.int .i64 (a : Int), .int .i64 (b : Int)] 41)).alloc (.cells #[.func (.func fo) #[] #[.pointer (some ⟨Bv, 0, none⟩)]] 62)).alloc (.cells #[.int .i64 0, .int .i64 0] 58)).alloc (.cells #[.nilIface] 43)).alloc (.cells #[.string s, .func (.func fs) #[] #[], .func (.func fw) #[] #[]] 54)).alloc (.cells #[.int .i64 (a : Int), .int .i64 (b : Int)] 41)) (w.heap.size + 1 + 1 + 1 + 1) 43 #[.nilIface] := ((Row.at _ _ _ _ (by simp)).alloc _).alloc _
  have r5 : Walker (((((((w.alloc (.cells #[.string s, .func (.func fs) #[] #[], .func (.func fw) #[] #[]] 54)).alloc (.cells #[.int .i64 (a : Int), .int .i64 (b : Int)] 41)).alloc (.cells #[.func (.func fo) #[] #[.pointer (some ⟨Bv, 0, none⟩)]] 62)).alloc (.cells #[.int .i64 0, .int .i64 0] 58)).alloc (.cells #[.nilIface] 43)).alloc (.cells #[.string s, .func (.func fs) #[] #[], .func (.func fw) #[] #[]] 54)).alloc (.cells #[.int .i64 (a : Int), .int .i64 (b : Int)] 41)) (w.heap.size + 1 + 1 + 1 + 1 + 1) s fs fw := Row.alloc (Row.at _ _ _ _ (by simp)) _
  have r6 : Row (((((((w.alloc (.cells #[.string s, .func (.func fs) #[] #[], .func (.func fw) #[] #[]] 54)).alloc (.cells #[.int .i64 (a : Int), .int .i64 (b : Int)] 41)).alloc (.cells #[.func (.func fo) #[] #[.pointer (some ⟨Bv, 0, none⟩)]] 62)).alloc (.cells #[.int .i64 0, .int .i64 0] 58)).alloc (.cells #[.nilIface] 43)).alloc (.cells #[.string s, .func (.func fs) #[] #[], .func (.func fw) #[] #[]] 54)).alloc (.cells #[.int .i64 (a : Int), .int .i64 (b : Int)] 41)) (w.heap.size + 1 + 1 + 1 + 1 + 1 + 1) 41 #[.int .i64 (a : Int), .int .i64 (b : Int)] := Row.at _ _ _ _ (by simp)
  have hB0 : Below w.heap.size w (((((((w.alloc (.cells #[.string s, .func (.func fs) #[] #[], .func (.func fw) #[] #[]] 54)).alloc (.cells #[.int .i64 (a : Int), .int .i64 (b : Int)] 41)).alloc (.cells #[.func (.func fo) #[] #[.pointer (some ⟨Bv, 0, none⟩)]] 62)).alloc (.cells #[.int .i64 0, .int .i64 0] 58)).alloc (.cells #[.nilIface] 43)).alloc (.cells #[.string s, .func (.func fs) #[] #[], .func (.func fw) #[] #[]] 54)).alloc (.cells #[.int .i64 (a : Int), .int .i64 (b : Int)] 41)) := (((((((Below.refl _ w).alloc (Nat.le_refl _) _).alloc (by simp) _).alloc (by simp; omega) _).alloc (by simp; omega) _).alloc (by simp; omega) _).alloc (by simp; omega) _).alloc (by simp; omega) _
  obtain ⟨W0, hW0⟩ : ∃ W0, (((((((w.alloc (.cells #[.string s, .func (.func fs) #[] #[], .func (.func fw) #[] #[]] 54)).alloc (.cells #[.int .i64 (a : Int), .int .i64 (b : Int)] 41)).alloc (.cells #[.func (.func fo) #[] #[.pointer (some ⟨Bv, 0, none⟩)]] 62)).alloc (.cells #[.int .i64 0, .int .i64 0] 58)).alloc (.cells #[.nilIface] 43)).alloc (.cells #[.string s, .func (.func fs) #[] #[], .func (.func fw) #[] #[]] 54)).alloc (.cells #[.int .i64 (a : Int), .int .i64 (b : Int)] 41)) = W0 := ⟨_, rfl⟩
  have hsz : W0.heap.size = w.heap.size + 7 := by rw [← hW0]; simp
  rw [hW0] at r2 r3 r4 r5 r6 hB0 ⊢
  clear hW0
  have hT0 : Tabs W0 := hTab.below hB0 hg1 hg2
  rw [← hh] at r2 r3 r4 r5 r6 hB0 hsz hg1 hg2 ⊢
  have HH := Lib.hid hh
  have hsz1 : h + 7 ≤ W0.heap.size := by omega
  have HMO := Lib.hid hmono
  clear hh hsz hmono
  have hstops := stops_stops 4 (by omega) (h + 1 + 1 + 1 + 1 + 1) (h + 1 + 1 + 1 + 1 + 1 + 1) h (h + 5) fs fw u hM s hs a b hab hbs T hT R hR hq W0 hg1 hg2 (by omega) (by omega) (by omega) r5 r6 hT0
  clear hT hR hq hO
  refine wpIn_rangeFunc_ownB rfl (by omega) (gf := 53) (lb := #[.pointer (some ⟨h + 1 + 1 + 1 + 1 + 1 + 1, 0, none⟩), .pointer (some ⟨h + 1 + 1 + 1 + 1 + 1, 0, none⟩)]) rfl trivial (enters_of Tryd.func53 (by kernel_rfl) rfl)
    hstops keeps_t (keeps_b (by omega)) (Below.refl _ _) (fun _ => rfl)
    (fun pre W => (Row W (h + 1 + 1) 62 #[.func (.func fo) #[] #[.pointer (some ⟨Bv, 0, none⟩)]] ∧ Row W (h + 1 + 1 + 1) 58 #[.int .i64 0, .int .i64 0] ∧ Row W (h + 1 + 1 + 1 + 1) 43 #[.nilIface] ∧ (∀ y ∈ pre, f y.1 < v) ∧ h + 7 ≤ W.heap.size) ∧ Below h w W)
    (fun c pre W => ((c = .ret ∧ ∃ x : Ix (R + 1), f x.1 = v ∧ Row W (h + 1 + 1 + 1) 58 #[.int .i64 ((a + posK T u x.1 : Nat) : Int), .int .i64 ((colK T u x.1 : Nat) : Int)] ∧ Row W (h + 1 + 1 + 1 + 1) 43 #[.nilIface]) ∨
      (c = .exit 0 ∧ (∃ (x : Ix (R + 1)) (pre' : List (Ix (R + 1))), pre = pre' ++ [x] ∧ v < f x.1 ∧ ∀ y ∈ pre', f y.1 < v) ∧ Row W (h + 1 + 1 + 1) 58 #[.int .i64 0, .int .i64 0] ∧ Row W (h + 1 + 1 + 1 + 1) 43 #[.nilIface] ∧ h + 7 ≤ W.heap.size)) ∧ Below h w W)
    (fun p X Y hs hb => ⟨⟨hs.1.1.below hb (by omega), hs.1.2.1.below hb (by omega), hs.1.2.2.1.below hb (by omega), hs.1.2.2.2.1, Nat.le_trans hs.1.2.2.2.2 hb.size⟩, hs.2.trans (hb.mono (by omega))⟩)
    (fun c p X Y hs hb => by
      obtain ⟨h1, h2⟩ := hs
      refine ⟨?_, h2.trans (hb.mono (by omega))⟩
      rcases h1 with ⟨e, x, hx, q1, q2⟩ | ⟨e, hx, q1, q2, q3⟩
      · exact .inl ⟨e, x, hx, q1.below hb (by omega), q2.below hb (by omega)⟩
      · exact .inr ⟨e, hx, q1.below hb (by omega), q2.below hb (by omega), Nat.le_trans q3 hb.size⟩)
    ⟨⟨r2, r3, r4, (fun x hx => by cases hx), by omega⟩, hB0⟩
    (fun x a' W => ∃ Bx, h + 7 ≤ Bx ∧ Row W Bx 58 #[.int .i64 ((a + posK T u x.1 : Nat) : Int), .int .i64 ((colK T u x.1 : Nat) : Int)] ∧ a' = { tmps := #[walkV s fs fw, .agg #[.int .i64 (a : Int), .int .i64 (b : Int)], .func (.func fo) #[] #[.pointer (some ⟨Bv, 0, none⟩)], .pointer (some ⟨h, 0, none⟩), .pointer (some ⟨h + 1, 0, none⟩), .pointer (some ⟨h + 1 + 1, 0, none⟩), .pointer (some ⟨h + 1 + 1 + 1, 0, none⟩), .pointer (some ⟨h + 1 + 1 + 1 + 1, 0, none⟩), .pointer (some ⟨Bx, 0, none⟩), undef, .agg #[.string s, .func (.func fs) #[] #[], .func (.func fw) #[] #[]], .agg #[.int .i64 (a : Int), .int .i64 (b : Int)], .func (.func 53) #[] #[.pointer (some ⟨h + 1 + 1 + 1 + 1 + 1 + 1, 0, none⟩), .pointer (some ⟨h + 1 + 1 + 1 + 1 + 1, 0, none⟩)], .agg #[.int .i64 ((a + posK T u x.1 : Nat) : Int), .int .i64 ((colK T u x.1 : Nat) : Int)], undef, undef, undef, undef, undef, undef, undef, undef, undef, undef, undef, undef], defers := [] })
    (fun x a' _ X Y row hs hg hr => by obtain ⟨Bx, h1, h2, h3⟩ := hs; exact ⟨Bx, h1, h2.kept hg (fun r e => (hr r e).2), h3⟩)
    ?assign ?body ?done ?stop
  case assign =>
    rintro l pre x W K ⟨⟨a1, a2, a3, a4, a5⟩, hB1⟩ hsW hK
    dsimp only [encS]
    gi_wp2
    exact hK _ _ ((KeepsOthers.alloc _ _).from _) (Keeps.alloc W (by omega) _) ⟨⟨a1.alloc _, a2.alloc _, a3.alloc _, a4, by rw [World.size_alloc]; omega⟩, hB1.alloc (by omega) _⟩ ⟨W.heap.size, a5, Row.new W _ _, rfl⟩
  case body =>
    rintro l pre x a' W hl ⟨r, hr⟩ ⟨⟨a1, a2, a3, a4, a5⟩, hB1⟩ ⟨Bx, hBx, bX, rfl⟩ hlt
    have hcmp := HOO.out x.1 W (by have := x.2; omega) (HH.out ▸ hB1)
    have A4 := Lib.hid a4
    have hbx := bX.lt
    have c1 := a1.cell 0
    have c5 := bX.cell 0
    have c6 := bX.cell 1
    simp at c1 c5 c6
    clear a4 hr
    obtain ⟨o, ho⟩ : ∃ o : Int, o = (if f x.1 < v then -1 else if f x.1 = v then 0 else 1) := ⟨_, rfl⟩
    rw [← ho] at hcmp
    have HC := Lib.hid hcmp
    have HO := Lib.hid ho
    clear hcmp ho
    have HA1 := Lib.hid a1
    have HA2 := Lib.hid a2
    have HA3 := Lib.hid a3
    have HBX := Lib.hid bX
    have HB1 := Lib.hid hB1
    clear a1 a2 a3 bX hB1
    have htri : (f x.1 < v ∧ o = -1) ∨ (f x.1 = v ∧ o = 0) ∨ (v < f x.1 ∧ o = 1) := by
      have := HO.out
      rcases Int.lt_trichotomy (f x.1) v with h1 | h1 | h1
      · left; rw [if_pos h1] at this; exact ⟨h1, this⟩
      · right; left; rw [if_neg (by omega), if_pos h1] at this; exact ⟨h1, this⟩
      · right; right; rw [if_neg (by omega), if_neg (by omega)] at this; exact ⟨h1, this⟩
    rcases htri with ⟨hx, rfl⟩ | ⟨hx, rfl⟩ | ⟨hx, rfl⟩
    · have HX := Lib.hid hx
      clear hx
      gi_wp2_with (refine ⟨trivial, ?_⟩; gi_at_fn fo; refine (CallsIn.inRound l (callsIn_wide.2 HC.out)).mono ?_; rintro e W1 ⟨rfl, hb1⟩; have HBB := Lib.hid hb1; clear hb1)
      refine ⟨keepsFrom_below HBB.out, keeps_below HBB.out (by omega), ⟨HA1.out.below HBB.out HA1.out.lt, HA2.out.below HBB.out HA2.out.lt, HA3.out.below HBB.out HA3.out.lt, fun y hy => ?_, Nat.le_trans a5 HBB.out.size⟩, HB1.out.trans (HBB.out.mono (by omega))⟩
      rcases List.mem_append.1 hy with h1 | h1
      · exact A4.out y h1
      · rw [List.mem_singleton.1 h1]; exact HX.out
    · have HX := Lib.hid hx
      clear hx
      gi_wp2_with (refine ⟨trivial, ?_⟩; gi_at_fn fo; refine (CallsIn.inRound l (callsIn_wide.2 HC.out)).mono ?_; rintro e W1 ⟨rfl, hb1⟩; have a2' := HA2.out.below hb1 HA2.out.lt; have a3' := HA3.out.below hb1 HA3.out.lt; have bX' := HBX.out.below hb1 HBX.out.lt; clear c1 c5 c6; have c2 := a2'.cell 0; have c2' := a2'.cell 1; have c3 := a3'.cell 0; have c5 := bX'.cell 0; have c6 := bX'.cell 1; have f2 := a2'.frozen 0; have f2' := a2'.frozen 1; have f3 := a3'.frozen 0; simp at c2 c2' c3 c5 c6; have HA2' := Lib.hid a2'; have HA3' := Lib.hid a3'; clear a2' a3' bX'; have HBB := Lib.hid hb1; clear hb1)
      refine ⟨(keepsFrom_below HBB.out).trans ((((KeepsOthers.setCell _ _ _).trans (KeepsOthers.setCell _ _ _)).trans (KeepsOthers.setCell _ _ _)).from _), .inl ⟨rfl, x, HX.out, ?_, ?_⟩, ?_⟩
      · exact ((HA2'.out.set 0 _).set 1 _).other (by omega) _
      · exact ((HA3'.out.other (by omega) _).other (by omega) _).set 0 _
      · exact (((HB1.out.trans (HBB.out.mono (by omega))).setCell (by dsimp only; omega) _).setCell (by dsimp only; omega) _).setCell (by dsimp only; omega) _
    · have HX := Lib.hid hx
      clear hx
      gi_wp2_with (refine ⟨trivial, ?_⟩; gi_at_fn fo; refine (CallsIn.inRound l (callsIn_wide.2 HC.out)).mono ?_; rintro e W1 ⟨rfl, hb1⟩; have HBB := Lib.hid hb1; clear hb1)
      exact ⟨keepsFrom_below HBB.out, .inr ⟨rfl, ⟨x, pre, rfl, HX.out, A4.out⟩, HA2.out.below HBB.out HA2.out.lt, HA3.out.below HBB.out HA3.out.lt, Nat.le_trans a5 HBB.out.size⟩, HB1.out.trans (HBB.out.mono (by omega))⟩
  case done =>
    rintro D zs W hD hz ⟨⟨a1, a2, a3, a4, a5⟩, hB1⟩ hK
    have hall : ∀ r, r ≤ R → f r ≠ v := fun r hr => by
      have hm : r ∈ zs.map (·.1) := by rw [hz]; exact List.mem_range.2 (by omega)
      obtain ⟨y, hy, rfl⟩ := List.mem_map.1 hm
      have := a4 y hy
      omega
    have HL := Lib.hid hall
    clear hall hz a4 a1
    have c2 := a2.cell 0
    have c2' := a2.cell 1
    have c3 := a3.cell 0
    have f2 := a2.frozen 0
    have f2' := a2.frozen 1
    have f3 := a3.frozen 0
    simp at c2 c2' c3
    have b2 := ((a2.set 0 (.int .i64 0)).set 1 (.int .i64 0)).other (show h + 1 + 1 + 1 ≠ h + 1 + 1 + 1 + 1 by omega) (i := 0) (faultV 20 wordsP)
    have b3 := ((a3.other (show h + 1 + 1 + 1 + 1 ≠ h + 1 + 1 + 1 by omega) (i := 0) (.int .i64 0)).other (show h + 1 + 1 + 1 + 1 ≠ h + 1 + 1 + 1 by omega) (i := 1) (.int .i64 0)).set 0 (faultV 20 wordsP)
    have hK1 := ((((KeepsOthers.setCell W ⟨h + 1 + 1 + 1, 0, none⟩ (.int .i64 0)).trans (KeepsOthers.setCell _ ⟨h + 1 + 1 + 1, 1, none⟩ (.int .i64 0))).trans (KeepsOthers.setCell _ ⟨h + 1 + 1 + 1 + 1, 0, none⟩ (faultV 20 wordsP))).same D _ hK rfl)
    have hB2 : Below h w _ := ((hB1.setCell (p := ⟨h + 1 + 1 + 1, 0, none⟩) (by dsimp only; omega) (.int .i64 0)).setCell (p := ⟨h + 1 + 1 + 1, 1, none⟩) (by dsimp only; omega) (.int .i64 0)).setCell (p := ⟨h + 1 + 1 + 1 + 1, 0, none⟩) (by dsimp only; omega) (faultV 20 wordsP)
    have HB2 := Lib.hid hB2
    have B2 := Lib.hid b2
    have B3 := Lib.hid b3
    clear hB2 b2 b3
    gi_wp2_with (refine ⟨trivial, ?_⟩; gi_at_call 38; refine (callsIn_wide.2 (noPlace_c _)).mono ?_; rintro e w' ⟨rfl, rfl⟩)
    try rw [Exit.noGoto_ret]
    have b2 := B2.out
    have b3 := B3.out
    have hB2 := HB2.out
    refine ⟨by simp, .inl ⟨_, _, rfl, run_takeDeferred hK1, ?_⟩⟩
    clear B2 B3 HB2
    obtain ⟨V, hV⟩ : ∃ V, V = (((W.setCell ⟨h + 1 + 1 + 1, 0, none⟩ (.int .i64 0)).setCell ⟨h + 1 + 1 + 1, 1, none⟩ (.int .i64 0)).setCell ⟨h + 1 + 1 + 1 + 1, 0, none⟩ (faultV 20 wordsP)) := ⟨_, rfl⟩
    rw [← hV] at hK1 b2 b3 hB2 ⊢
    refine ⟨.tuple #[.agg #[.int .i64 0, .int .i64 0], faultV 20 wordsP], ?_, ⟨_, rfl, .inr ⟨HL.out, rfl⟩⟩, ?_⟩
    · have g2 := (b2.kept (grownBy_putObj' V D (.deferred none)) (fun r e => by cases e; exact ⟨_, hK1, rfl⟩))
      have g3 := (b3.kept (grownBy_putObj' V D (.deferred none)) (fun r e => by cases e; exact ⟨_, hK1, rfl⟩))
      have d2 := g2.cell 0
      have d2' := g2.cell 1
      have d3 := g3.cell 0
      simp at d2 d2' d3
      simp [results, Tryd.f27, go_sem, d2, d2', d3]
    · rw [← HH.out]
      exact hB2.trans (belowK_b (w := w) (Nat.le_of_eq HH.out) V D _ _ (by have := HH.out; omega) hK1 rfl rfl)
  case stop =>
    rintro D c pre W hD ⟨m, hm1, hz⟩ ⟨⟨rfl, x, hx, a2, a3⟩ | ⟨rfl, ⟨x, pre', rfl, hx, hp⟩, a2, a3, a5⟩, hB1⟩ hK
    · have HX := Lib.hid hx
      clear hx hz hm1
      gi_wp2
      refine ⟨by simp, .inl ⟨_, _, rfl, run_takeDeferred hK, ?_⟩⟩
      refine ⟨.tuple #[.agg #[.int .i64 ((a + posK T u x.1 : Nat) : Int), .int .i64 ((colK T u x.1 : Nat) : Int)], .nilIface], ?_, ⟨_, rfl, .inl ⟨x.1, by have := x.2; omega, HX.out, rfl⟩⟩, ?_⟩
      · have g2 := (a2.kept (grownBy_putObj' W D (.deferred none)) (fun r e => by cases e; exact ⟨_, hK, rfl⟩))
        have g3 := (a3.kept (grownBy_putObj' W D (.deferred none)) (fun r e => by cases e; exact ⟨_, hK, rfl⟩))
        have d2 := g2.cell 0
        have d2' := g2.cell 1
        have d3 := g3.cell 0
        simp at d2 d2' d3
        simp [results, Tryd.f27, go_sem, d2, d2', d3]
      · rw [← HH.out]
        exact hB1.trans (belowK_b (w := w) (Nat.le_of_eq HH.out) W D _ _ (by have := HH.out; omega) hK rfl rfl)
    · have hin := (inOrder_of hz).1
      obtain ⟨hi1, hi2⟩ := inOrder_snoc.1 hin
      have hall : ∀ r, r ≤ R → f r ≠ v := fun r hr => by
        rcases Nat.lt_trichotomy r x.1 with h1 | h1 | h1
        · have hmem : r ∈ pre'.map (·.1) := by
            rw [show pre'.map (·.1) = List.range pre'.length from hi1]
            exact List.mem_range.2 (by omega)
          obtain ⟨y, hy, rfl⟩ := List.mem_map.1 hmem
          have := hp y hy
          omega
        · rw [h1]; omega
        · have := HMO.out x.1 r h1 hr
          omega
      have HL := Lib.hid hall
      clear hall hin hi1 hi2 hz hp hx hm1
      have c2 := a2.cell 0
      have c2' := a2.cell 1
      have c3 := a3.cell 0
      have f2 := a2.frozen 0
      have f2' := a2.frozen 1
      have f3 := a3.frozen 0
      simp at c2 c2' c3
      have b2 := ((a2.set 0 (.int .i64 0)).set 1 (.int .i64 0)).other (show h + 1 + 1 + 1 ≠ h + 1 + 1 + 1 + 1 by omega) (i := 0) (faultV 20 wordsP)
      have b3 := ((a3.other (show h + 1 + 1 + 1 + 1 ≠ h + 1 + 1 + 1 by omega) (i := 0) (.int .i64 0)).other (show h + 1 + 1 + 1 + 1 ≠ h + 1 + 1 + 1 by omega) (i := 1) (.int .i64 0)).set 0 (faultV 20 wordsP)
      have hK1 := ((((KeepsOthers.setCell W ⟨h + 1 + 1 + 1, 0, none⟩ (.int .i64 0)).trans (KeepsOthers.setCell _ ⟨h + 1 + 1 + 1, 1, none⟩ (.int .i64 0))).trans (KeepsOthers.setCell _ ⟨h + 1 + 1 + 1 + 1, 0, none⟩ (faultV 20 wordsP))).same D _ hK rfl)
      have hB2 : Below h w _ := ((hB1.setCell (p := ⟨h + 1 + 1 + 1, 0, none⟩) (by dsimp only; omega) (.int .i64 0)).setCell (p := ⟨h + 1 + 1 + 1, 1, none⟩) (by dsimp only; omega) (.int .i64 0)).setCell (p := ⟨h + 1 + 1 + 1 + 1, 0, none⟩) (by dsimp only; omega) (faultV 20 wordsP)
      have HB2 := Lib.hid hB2
      have B2 := Lib.hid b2
      have B3 := Lib.hid b3
      clear hB2 b2 b3
      gi_wp2_with (refine ⟨trivial, ?_⟩; gi_at_call 38; refine (callsIn_wide.2 (noPlace_c _)).mono ?_; rintro e w' ⟨rfl, rfl⟩)
      try rw [Exit.noGoto_ret]
      have b2 := B2.out
      have b3 := B3.out
      have hB2 := HB2.out
      refine ⟨by simp, .inl ⟨_, _, rfl, run_takeDeferred hK1, ?_⟩⟩
      clear B2 B3 HB2
      obtain ⟨V, hV⟩ : ∃ V, V = (((W.setCell ⟨h + 1 + 1 + 1, 0, none⟩ (.int .i64 0)).setCell ⟨h + 1 + 1 + 1, 1, none⟩ (.int .i64 0)).setCell ⟨h + 1 + 1 + 1 + 1, 0, none⟩ (faultV 20 wordsP)) := ⟨_, rfl⟩
      rw [← hV] at hK1 b2 b3 hB2 ⊢
      refine ⟨.tuple #[.agg #[.int .i64 0, .int .i64 0], faultV 20 wordsP], ?_, ⟨_, rfl, .inr ⟨HL.out, rfl⟩⟩, ?_⟩
      · have g2 := (b2.kept (grownBy_putObj' V D (.deferred none)) (fun r e => by cases e; exact ⟨_, hK1, rfl⟩))
        have g3 := (b3.kept (grownBy_putObj' V D (.deferred none)) (fun r e => by cases e; exact ⟨_, hK1, rfl⟩))
        have d2 := g2.cell 0
        have d2' := g2.cell 1
        have d3 := g3.cell 0
        simp at d2 d2' d3
        simp [results, Tryd.f27, go_sem, d2, d2', d3]
      · rw [← HH.out]
        exact hB2.trans (belowK_b (w := w) (Nat.le_of_eq HH.out) V D _ _ (by have := HH.out; omega) hK1 rfl rfl)
end Go.Proofs.YtaahhilnkffdlaaDoor
