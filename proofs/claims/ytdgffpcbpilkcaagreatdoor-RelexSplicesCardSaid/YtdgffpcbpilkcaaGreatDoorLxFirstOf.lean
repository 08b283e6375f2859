/- The first of some rules that fits; a token with bytes of its own. -/
import Derived.Test.YtdgffpcbpilkcaaGreatDoorLxRules
import Derived.Deep.RegionHeldLaw
import Derived.Laws.StructEq
namespace Go.Proofs.YtdgffpcbpilkcaaGreatDoor
open Go Go.RowKit Go.Shelf
attribute [local go_sem] Oper.semAt_some

/-- The function values of some rules, in a block from its beginning on. -/
def FnsAt (W : World) (g n : Nat) (f : Nat → Nat) (v : Nat → Value) : Prop := ∀ i, i < n → W.cell? ⟨g, i, none⟩ = some (.func (.func (f i)) #[v i] #[])
/-- The first of n that is a token. -/
def firstN (t : Nat → Tk) : Nat → Nat → Tk
  | 0, _ => noTk
  | n + 1, i => if t i = noTk then firstN t n (i + 1) else t i

set_option maxRecDepth 100000 in
set_option maxHeartbeats 4000000 in
theorem firstOf_c (n g : Nat) (hn : n ≤ 20) (f : Nat → Nat) (v : Nat → Value) (t : Nat → Tk) (w : World) (hg : g < w.heap.size) (hF : FnsAt w g n f v) (ht : ∀ i, i < n → t i = noTk ∨ (t i).kind ≠ 0)
    (he : ∀ i, i < n → ∀ args W, (callFunc (f i) args).run Tryz.prog W = .ok (.enter (f i) args) W)
    (hc : ∀ i, i < n → ∀ W, Below w.heap.size w W → Calls Tryz.prog (f i) #[v i] W fun e W' => e = .returned (tokV (t i)) ∧ Below W.heap.size W W') :
    Calls Tryz.prog 89 #[.slice (some ⟨g, 0, none⟩) n n] w fun e W' => e = .returned (tokV (firstN t n 0)) ∧ Below w.heap.size w W' := by
  obtain ⟨W0, hW0⟩ : ∃ W0, W0 = w.alloc (.cells #[.int .i64 0, .string ⟨#[]⟩, .string ⟨#[]⟩] 55) := ⟨_, rfl⟩
  have r0 : Row W0 w.heap.size 55 #[.int .i64 0, .string ⟨#[]⟩, .string ⟨#[]⟩] := by rw [hW0]; exact Row.new _ _ _
  have hb0 : Below w.heap.size w W0 := by rw [hW0]; exact (Below.refl _ w).alloc (Nat.le_refl _) _
  have hs0 : w.heap.size + 1 ≤ W0.heap.size := by rw [hW0]; simp
  have HF := Lib.hid hF
  have HT := Lib.hid ht
  have HE := Lib.hid he
  have HC := Lib.hid hc
  clear hF ht he hc
  go_enter Tryz.func89, Tryz.ntmps89
  go_wp2_with fail
  rw [← hW0]
  clear hW0
  go_loopw [8] (fun i wr => ∃ k : Nat, k ≤ n ∧ i = .int .i64 k ∧ Row wr w.heap.size 55 #[.int .i64 0, .string ⟨#[]⟩, .string ⟨#[]⟩] ∧ Below w.heap.size w wr ∧ w.heap.size + 1 ≤ wr.heap.size ∧ firstN t n 0 = firstN t (n - k) k)
    (fun i _ => n - (intOf i).toNat)
  case atStart => exact ⟨0, Nat.zero_le _, rfl, r0, hb0, hs0, rfl⟩
  case round =>
    obtain ⟨k, hk, rfl, r1, hb1, hs1, hq⟩ := hrel
    have R1 := Lib.hid r1
    have B1 := Lib.hid hb1
    have HQ := Lib.hid hq
    clear hq
    by_cases hlt : k < n
    · have c1 : wr.cell? ⟨g, k, none⟩ = some (.func (.func (f k)) #[v k] #[]) := (hb1.cell (p := ⟨g, k, none⟩) hg).trans (HF.out k hlt)
      have eo := HE.out k hlt
      have hcall := HC.out k hlt wr hb1
      have hq1 : firstN t n 0 = if t k = noTk then firstN t (n - (k + 1)) (k + 1) else t k := by
        rw [HQ.out, show n - k = (n - (k + 1)) + 1 by omega]
        rfl
      have HTK := HT.out k hlt
      obtain ⟨fk, hfk⟩ : ∃ fk, fk = f k := ⟨_, rfl⟩
      obtain ⟨vk, hvk⟩ : ∃ vk, vk = v k := ⟨_, rfl⟩
      obtain ⟨x, hx⟩ : ∃ x, x = t k := ⟨_, rfl⟩
      rw [← hfk] at eo c1 hcall
      rw [← hvk] at c1 hcall
      rw [← hx] at hcall hq1 HTK
      clear hfk hvk hx r1 hb1
      by_cases hz : x = noTk
      · rw [if_pos hz] at hq1
        subst hz
        change Calls Tryz.prog fk #[vk] wr fun e W' => e = .returned (.agg #[.int .i64 0, .string ⟨#[]⟩, .string ⟨#[]⟩]) ∧ Below wr.heap.size wr W' at hcall
        have HCL := Lib.hid hcall
        have HQ1 := Lib.hid hq1
        clear hcall hq1 HTK
        go_wp2_with (go_at_fn fk; refine HCL.out.mono ?_; rintro e w2 ⟨rfl, hb2⟩; have HB2 := Lib.hid hb2; have hs2 := hb2.size; clear hb2)
        go_roundw
        case rel => exact ⟨k + 1, by omega, by simp, (R1.out.below HB2.out R1.out.lt).alloc _, (B1.out.trans (HB2.out.mono (by omega))).alloc (by omega) _, by rw [World.size_alloc]; omega, HQ1.out⟩
        case measure => simp [intOf]; omega
      · rw [if_neg hz] at hq1
        have hkd : x.kind ≠ 0 := HTK.resolve_left hz
        obtain ⟨kd, hkd1⟩ : ∃ kd : Int, kd = ((x.kind : Nat) : Int) := ⟨_, rfl⟩
        obtain ⟨U, hU⟩ : ∃ U, U = bs x.text := ⟨_, rfl⟩
        obtain ⟨G, hG⟩ : ∃ G, G = bs x.glyph := ⟨_, rfl⟩
        have htv : tokV x = .agg #[.int .i64 kd, .string U, .string G] := by rw [hkd1, hU, hG]; rfl
        have hne : (kd == 0) = false := by rw [hkd1]; simpa using hkd
        rw [htv] at hcall
        have HCL := Lib.hid hcall
        have HQ1 := Lib.hid hq1
        have HTV := Lib.hid (And.intro hkd1 (And.intro hU hG))
        clear hcall hq1 HTK hkd1 hU hG htv hz hkd
        go_wp2_with (go_at_fn fk; refine HCL.out.mono ?_; rintro e w2 ⟨rfl, hb2⟩; have HB2 := Lib.hid hb2; have hs2 := hb2.size; obtain ⟨d0, d1, d2, f0, f1, f2⟩ := tok_cells ((R1.out.below hb2 R1.out.lt).alloc (.cells #[.int .i64 kd, .string U, .string G] 55)); clear hb2)
        exact tok_ret (j := 2) (t := x) rfl rfl rfl (tok_set ((R1.out.below HB2.out R1.out.lt).alloc _) _ _ _) (by rw [HTV.out.1, HTV.out.2.1, HTV.out.2.2]; rfl) ⟨by rw [HQ1.out], below_set3 ((B1.out.trans (HB2.out.mono (by omega))).alloc (by omega) _) _ _ _ (by simp) (by simp) (by simp) _ _ _⟩
    · obtain rfl : k = n := by omega
      obtain ⟨d0, d1, d2, f0, f1, f2⟩ := tok_cells r1
      have hq0 : firstN t k 0 = noTk := by rw [HQ.out, Nat.sub_self]; rfl
      have HQ0 := Lib.hid hq0
      clear hq0
      go_wp2
      exact tok_ret (j := 2) (t := noTk) rfl rfl rfl (tok_set R1.out _ _ _) (by simp [tokC, noTk, bs_nil]) ⟨by rw [HQ0.out], below_set3 B1.out _ _ _ (by simp) (by simp) (by simp) _ _ _⟩

theorem tokrow_next {W W' : World} {h : Nat} {cs : Array Value} (hr : Row W h 55 cs) (hb : Below W.heap.size W W') : Row W' h 55 cs := hr.below hb hr.lt
/-- strings.Clone. -/
theorem clone_c (s : ByteArray) (hs : s.size ≤ 10000) (w : World) :
    Calls Tryz.prog 62 #[.string s] w fun e W' => e = .returned (.string s) ∧ Below w.heap.size w W' := by
  have H := Lib.hid (Tryz.stringslite_Clone s w (by omega))
  go_enter Tryz.func62, Tryz.ntmps62
  go_wp2_with (go_at_call 73; refine H.out.mono ?_; rintro e w1 ⟨rfl, hb1⟩; have HB := Lib.hid hb1; clear hb1)
  go_ret
  exact ⟨rfl, HB.out⟩

/-- A call ends that tells a token, in letters. -/
theorem agg_ret {f : Func} {j h : Nat} {R : Ending → World → Prop} {a : Act} {W : World} {x y z : Value} (hr : f.results = #[.cell j 55]) (ha : a.tmps[j]? = some (.pointer (some ⟨h, 0, none⟩))) (hd : a.defers = [])
    (hrow : Row W h 55 #[x, y, z]) (hR : R (.returned (.agg #[x, y, z])) W) : bodyPost Tryz.prog f R Exit.ret a W := by
  obtain ⟨d0, d1, d2, _, _, _⟩ := tok_cells hrow
  refine bodyPost_ret (v := .agg #[x, y, z]) ?_ hd hR
  simp [results, hr, ha, go_sem, d0, d1, d2]
theorem own_set {W : World} {h : Nat} {t : TypeId} {a b c : Value} (r : Row W h t #[a, b, c]) :
    Row (W.setCell ⟨h, 1, none⟩ b) h t #[a, b, c] ∧ Row ((W.setCell ⟨h, 1, none⟩ b).setCell ⟨h, 2, none⟩ c) h t #[a, b, c] := ⟨r.set 1 b, (r.set 1 b).set 2 c⟩

set_option maxRecDepth 100000 in
set_option maxHeartbeats 4000000 in
/-- own(x). -/
theorem own_c (k : Int) (U G : ByteArray) (hU : U.size ≤ 10000) (hG : G.size ≤ 10000) (w : World) :
    Calls Tryz.prog 98 #[.agg #[.int .i64 k, .string U, .string G]] w fun e W' => e = .returned (.agg #[.int .i64 k, .string U, .string G]) ∧ Below w.heap.size w W' := by
  have HCU := Lib.hid (fun W => clone_c U hU W)
  have HCG := Lib.hid (fun W => clone_c G hG W)
  have r1 : Row ((w.alloc (.cells #[.int .i64 k, .string U, .string G] 55)).alloc (.cells #[.int .i64 0, .string ⟨#[]⟩, .string ⟨#[]⟩] 55)) w.heap.size 55 #[.int .i64 k, .string U, .string G] := (Row.new _ _ _).alloc _
  have r2 : Row ((w.alloc (.cells #[.int .i64 k, .string U, .string G] 55)).alloc (.cells #[.int .i64 0, .string ⟨#[]⟩, .string ⟨#[]⟩] 55)) (w.heap.size + 1) 55 #[.int .i64 0, .string ⟨#[]⟩, .string ⟨#[]⟩] := Row.at _ _ _ _ (by simp)
  have hb : Below w.heap.size w ((w.alloc (.cells #[.int .i64 k, .string U, .string G] 55)).alloc (.cells #[.int .i64 0, .string ⟨#[]⟩, .string ⟨#[]⟩] 55)) := ((Below.refl _ w).alloc (Nat.le_refl _) _).alloc (by simp) _
  have R1 := Lib.hid r1
  have R2 := Lib.hid r2
  have HB := Lib.hid hb
  clear r1 r2 hb
  go_enter Tryz.func98, Tryz.ntmps98
  go_wp2_with fail
  obtain ⟨W0, hW0⟩ : ∃ W0, ((w.alloc (.cells #[.int .i64 k, .string U, .string G] 55)).alloc (.cells #[.int .i64 0, .string ⟨#[]⟩, .string ⟨#[]⟩] 55)) = W0 := ⟨_, rfl⟩
  rw [hW0] at R1 R2 HB ⊢
  have RD := Lib.hid R1.out.drew
  have SD := Lib.hid R2.out.drew
  have BD := Lib.hid HB.out.drew
  have hsz : w.heap.size + 2 ≤ W0.heap.size := R2.out.lt
  clear hW0
  obtain ⟨a0, a1, a2, b0, b1, b2⟩ := tok_cells RD.out
  go_region_held_law (fun w' => w'.cell? ⟨w.heap.size, 1, none⟩ = some (.string U) ∧ w'.cell? ⟨w.heap.size, 2, none⟩ = some (.string G))
    (first
      | exact ⟨(tok_cells (own_set RB.out).1).2.1, (tok_cells (own_set RB.out).1).2.2.1⟩
      | exact ⟨(tok_cells (own_set RB.out).2).2.1, (tok_cells (own_set RB.out).2).2.2.1⟩
      | exact ⟨(tok_cells RB.out).2.1, (tok_cells RB.out).2.2.1⟩
      | exact ⟨(tok_cells RA.out).2.1, (tok_cells RA.out).2.2.1⟩
      | exact ⟨a1, a2⟩
      | go_keep)
    ((first
      | (go_at_call 62; refine (HCU.out _).mono ?_; rintro e w3 ⟨rfl, hb3⟩; have RA := Lib.hid (tokrow_next RD.out hb3); have SA := Lib.hid (tokrow_next SD.out hb3); have BA := Lib.hid (BD.out.trans (hb3.mono (by show _ ≤ W0.heap.size; omega))); clear hb3 HCU)
      | (go_at_call 62; refine (HCG.out _).mono ?_; rintro e w4 ⟨rfl, hb4⟩; have RB := Lib.hid (tokrow_next RA.out hb4); have SB := Lib.hid (tokrow_next SA.out hb4); have BB := Lib.hid (BA.out.trans (hb4.mono (Nat.le_of_lt RA.out.lt))); obtain ⟨d0, d1, d2, f0, f1, f2⟩ := tok_cells RB.out; clear hb4)))
  obtain ⟨V, hV⟩ : ∃ V, V = (w4.setCell ⟨w.heap.size, 1, none⟩ (.string U)).setCell ⟨w.heap.size, 2, none⟩ (.string G) := ⟨_, rfl⟩
  have rV : Row V w.heap.size 55 #[.int .i64 k, .string U, .string G] := by rw [hV]; exact (own_set RB.out).2
  have sV : Row V (w.heap.size + 1) 55 #[.int .i64 0, .string ⟨#[]⟩, .string ⟨#[]⟩] := by rw [hV]; exact (SB.out.other (by omega) _).other (by omega) _
  have bV : Below w.heap.size w V := by rw [hV]; exact (BB.out.setCell (by simp) _).setCell (by simp) _
  rw [← hV]
  clear hV
  have RV := Lib.hid rV
  have SV := Lib.hid sV
  have BV := Lib.hid bV
  obtain ⟨p0, p1, p2, _, _, _⟩ := tok_cells rV
  obtain ⟨q0, q1, q2, g0, g1, g2⟩ := tok_cells sV
  clear rV sV bV RA RB SA SB BA BB RD SD BD
  go_wp2
  exact agg_ret (j := 2) rfl rfl rfl (tok_set SV.out _ _ _) ⟨rfl, below_set3 BV.out _ _ _ (by simp) (by simp) (by simp) _ _ _⟩
end Go.Proofs.YtdgffpcbpilkcaaGreatDoor
