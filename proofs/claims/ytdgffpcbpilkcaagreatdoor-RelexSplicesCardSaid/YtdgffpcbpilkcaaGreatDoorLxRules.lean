/- The rules: blanks, remarks, names, other runes. -/
import Derived.Test.YtdgffpcbpilkcaaGreatDoorLxGlyph
import Derived.Laws.StructEq
namespace Go.Proofs.YtdgffpcbpilkcaaGreatDoor
open Go Go.RowKit Go.Shelf
attribute [local go_sem] Oper.semAt_some

/-- A token's cells in memory, one by one. -/
theorem tok_cells {W : World} {h : Nat} {t : TypeId} {a b c : Value} (r : Row W h t #[a, b, c]) :
    W.cell? ⟨h, 0, none⟩ = some a ∧ W.cell? ⟨h, 1, none⟩ = some b ∧ W.cell? ⟨h, 2, none⟩ = some c ∧ W.frozen? ⟨h, 0, none⟩ = false ∧ W.frozen? ⟨h, 1, none⟩ = false ∧ W.frozen? ⟨h, 2, none⟩ = false := by
  have c0 := r.cell 0
  have c1 := r.cell 1
  have c2 := r.cell 2
  simp at c0 c1 c2
  exact ⟨c0, c1, c2, r.frozen 0, r.frozen 1, r.frozen 2⟩
/-- The cells written, one by one. -/
theorem tok_set {W : World} {h : Nat} {t : TypeId} {a b c : Value} (r : Row W h t #[a, b, c]) (x y z : Value) :
    Row (((W.setCell ⟨h, 0, none⟩ x).setCell ⟨h, 1, none⟩ y).setCell ⟨h, 2, none⟩ z) h t #[x, y, z] := ((r.set 0 x).set 1 y).set 2 z
theorem below_set3 {n : Nat} {w W : World} (h : Below n w W) (p q r : Addr) (hp : n ≤ p.block) (hq : n ≤ q.block) (hr : n ≤ r.block) (x y z : Value) :
    Below n w (((W.setCell p x).setCell q y).setCell r z) := ((h.setCell hp x).setCell hq y).setCell hr z

/-- token(kind, size, g), in letters. -/
theorem token_k (T : List UInt8) (kind n : Nat) (g : List UInt8) (hT : T.length ≤ 10000) (hn : n ≤ T.length) (s U G : ByteArray) (K : Int) (hs : s = bs T) (hU : U = bs (T.take n)) (hG : G = bs g) (hK : K = (kind : Int)) (w : World) :
    Calls Tryz.prog 102 #[.agg #[.string s], .int .i64 K, .int .i64 (n : Int), .string G] w fun e W' => e = .returned (.agg #[.int .i64 K, .string U, .string G]) ∧ Below w.heap.size w W' := by
  subst hs hU hG hK
  exact token_c T kind n g hT hn w

/-- What a rule's call begins with: the receiver, and room for a token. -/
theorem rule_world (w : World) (s : ByteArray) : ∃ W0, W0 = (w.alloc (.cells #[.string s] 144)).alloc (.cells #[.int .i64 0, .string ⟨#[]⟩, .string ⟨#[]⟩] 55) ∧
    Row W0 w.heap.size 144 #[.string s] ∧ Row W0 (w.heap.size + 1) 55 #[.int .i64 0, .string ⟨#[]⟩, .string ⟨#[]⟩] ∧ Below w.heap.size w W0 ∧ W0.heap.size = w.heap.size + 2 :=
  ⟨_, rfl, (Row.new _ _ _).alloc _, Row.at _ _ _ _ (by simp), ((Below.refl _ w).alloc (Nat.le_refl _) _).alloc (by simp) _, by simp⟩

theorem bs_nil : bs [] = ⟨#[]⟩ := rfl

/-- What lies while a rule's call goes on: the receiver, and room for a token. -/
structure At (w : World) (s : ByteArray) (W : World) : Prop where
  rest : Row W w.heap.size 144 #[.string s]
  tok : Row W (w.heap.size + 1) 55 #[.int .i64 0, .string ⟨#[]⟩, .string ⟨#[]⟩]
  below : Below w.heap.size w W
  size : w.heap.size + 2 ≤ W.heap.size
theorem At.next {w W W' : World} {s : ByteArray} (h : At w s W) (hb : Below W.heap.size W W') : At w s W' where
  rest := h.rest.below hb h.rest.lt
  tok := h.tok.below hb h.tok.lt
  below := h.below.trans (hb.mono (by have := h.size; omega))
  size := Nat.le_trans h.size hb.size
theorem At.drew {w W : World} {s : ByteArray} (h : At w s W) : At w s W.drew := ⟨h.rest.drew, h.tok.drew, h.below.drew, h.size⟩
theorem At.facts {w W : World} {s : ByteArray} (h : At w s W) : W.cell? ⟨w.heap.size, 0, none⟩ = some (.string s) ∧
    W.cell? ⟨w.heap.size + 1, 0, none⟩ = some (.int .i64 0) ∧ W.cell? ⟨w.heap.size + 1, 1, none⟩ = some (.string ⟨#[]⟩) ∧ W.cell? ⟨w.heap.size + 1, 2, none⟩ = some (.string ⟨#[]⟩) ∧
    W.frozen? ⟨w.heap.size + 1, 0, none⟩ = false ∧ W.frozen? ⟨w.heap.size + 1, 1, none⟩ = false ∧ W.frozen? ⟨w.heap.size + 1, 2, none⟩ = false :=
  ⟨by rw [h.rest.cell]; rfl, tok_cells h.tok⟩
theorem At.below3 {w W : World} {s : ByteArray} (h : At w s W) (x y z : Value) :
    Below w.heap.size w (((W.setCell ⟨w.heap.size + 1, 0, none⟩ x).setCell ⟨w.heap.size + 1, 1, none⟩ y).setCell ⟨w.heap.size + 1, 2, none⟩ z) :=
  below_set3 h.below _ _ _ (by simp) (by simp) (by simp) _ _ _
theorem at_start (w : World) (s : ByteArray) : ∃ W0, W0 = (w.alloc (.cells #[.string s] 144)).alloc (.cells #[.int .i64 0, .string ⟨#[]⟩, .string ⟨#[]⟩] 55) ∧ At w s W0 := by
  obtain ⟨W0, h0, h1, h2, h3, h4⟩ := rule_world w s
  exact ⟨W0, h0, h1, h2, h3, by omega⟩

set_option maxHeartbeats 2000000 in
/-- blank(). -/
theorem blank_c (T : List UInt8) (hT : T.length ≤ 10000) (w : World) :
    Calls Tryz.prog 90 #[.agg #[.string (bs T)]] w fun e W' => e = .returned (tokV (rB T)) ∧ Below w.heap.size w W' := by
  have hn := nOf_le isB T
  have hR := fun W => run_c _ isB kind_B T hT W
  obtain ⟨n, hnn⟩ : ∃ n, n = nOf isB T := ⟨_, rfl⟩
  obtain ⟨U, hU⟩ : ∃ U, U = bs (T.take n) := ⟨_, rfl⟩
  obtain ⟨s, hs⟩ : ∃ s, s = bs T := ⟨_, rfl⟩
  have hK := fun W => token_k T 1 n [] hT (by rw [hnn]; exact hn) s U ⟨#[]⟩ 1 hs hU rfl rfl W
  have hRB : rB T = if n = 0 then noTk else ⟨1, T.take n, []⟩ := by rw [hnn]; rfl
  change ∀ W, Calls Tryz.prog _ _ W fun e W' => e = .returned (.int .i64 ((nOf isB T : Nat) : Int)) ∧ _ at hR
  rw [← hnn, ← hs] at hR
  rw [← hnn] at hn
  rw [← hs]
  have hn1 : n ≤ 10000 := by omega
  obtain ⟨W0, hW0, A0⟩ := at_start w s
  have HR := Lib.hid hR
  have HK := Lib.hid hK
  have HU := Lib.hid hU
  obtain ⟨c0, _⟩ := A0.facts
  clear hR hK hs hU hn hnn hT
  by_cases h0 : n = 0
  · subst h0
    rw [if_pos rfl] at hRB
    rw [hRB]
    clear hRB
    go_enter Tryz.func90, Tryz.ntmps90
    go_wp2_with fail
    rw [← hW0]
    go_wp2_with (first
      | (go_at_call 100; refine (HR.out _).mono ?_; rintro e w1 ⟨rfl, hb1⟩; have A1 := A0.next hb1; obtain ⟨c1, d10, d11, d12, f10, f11, f12⟩ := A1.facts; clear hb1))
    exact tok_ret (j := 2) rfl rfl rfl (tok_set A1.tok _ _ _) (by simp [tokC, noTk, bs_nil]) ⟨rfl, A1.below3 _ _ _⟩
  · rw [if_neg h0] at hRB
    rw [hRB]
    have hne : ((n : Int) == 0) = false := by simp; exact h0
    clear hRB h0
    go_enter Tryz.func90, Tryz.ntmps90
    go_wp2_with fail
    rw [← hW0]
    go_wp2_with (first
      | (go_at_call 100; refine (HR.out _).mono ?_; rintro e w1 ⟨rfl, hb1⟩; have A1 := A0.next hb1; obtain ⟨c1, d10, d11, d12, f10, f11, f12⟩ := A1.facts; clear hb1)
      | (go_at_call 102; refine (HK.out _).mono ?_; rintro e w2 ⟨rfl, hb2⟩; have A2 := A1.next hb2; obtain ⟨c2, d20, d21, d22, f20, f21, f22⟩ := A2.facts; clear hb2))
    exact tok_ret (j := 2) rfl rfl rfl (tok_set A2.tok _ _ _) (by simp [tokC, bs_nil, HU.out]) ⟨rfl, A2.below3 _ _ _⟩

set_option maxHeartbeats 2000000 in
/-- remark(). -/
theorem remark_c (T : List UInt8) (hT : T.length ≤ 10000) (w : World) (hG : Ground w) :
    Calls Tryz.prog 91 #[.agg #[.string (bs T)]] w fun e W' => e = .returned (tokV (rR T)) ∧ Below w.heap.size w W' := by
  have hN := fun W h => nextGlyph_c T W h
  have hC := fun W h => class_c (glT T) W h
  rw [cls_glT] at hC
  have hcl := clsT_le T
  obtain ⟨c, hc⟩ : ∃ c, c = clsT T := ⟨_, rfl⟩
  obtain ⟨z, hz⟩ : ∃ z, z = fsz T := ⟨_, rfl⟩
  obtain ⟨g, hg⟩ : ∃ g, g = bs (glT T) := ⟨_, rfl⟩
  obtain ⟨s, hs⟩ : ∃ s, s = bs T := ⟨_, rfl⟩
  have hsz : s.size = T.length := by rw [hs, bs_size]
  have hK := fun W => token_k T 2 s.size (glT T) hT (by omega) s s g 2 hs (by rw [hsz, List.take_length]; exact hs) hg rfl W
  have hRB : rR T = if c = 6 then ⟨2, T, glT T⟩ else noTk := by rw [hc]; rfl
  rw [← hz, ← hg, ← hs] at hN
  rw [← hg, ← hc] at hC
  rw [← hc] at hcl
  rw [← hs]
  have hs1 : s.size ≤ 10000 := by omega
  obtain ⟨W0, hW0, A0⟩ := at_start w s
  have HN := Lib.hid hN
  have HC := Lib.hid hC
  have HK := Lib.hid hK
  have HS := Lib.hid hs
  have HGG := Lib.hid hg
  obtain ⟨c0, _⟩ := A0.facts
  clear hN hC hK hs hc hz hg hsz hT
  by_cases h6 : c = 6
  · subst h6
    rw [if_pos rfl] at hRB
    rw [hRB]
    clear hRB hcl
    go_enter Tryz.func91, Tryz.ntmps91
    go_wp2_with fail
    rw [← hW0]
    go_wp2_with (first
      | (go_at_call 103; refine (HN.out _ (hG.below A0.below)).mono ?_; rintro e w1 ⟨rfl, hb1⟩; have A1 := A0.next hb1; obtain ⟨c1, d10, d11, d12, f10, f11, f12⟩ := A1.facts; clear hb1)
      | (go_at_call 104; refine (HC.out _ (hG.below A1.below)).mono ?_; rintro e w2 ⟨rfl, hb2⟩; have A2 := A1.next hb2; obtain ⟨c2, d20, d21, d22, f20, f21, f22⟩ := A2.facts; clear hb2)
      | (go_at_call 102; refine (HK.out _).mono ?_; rintro e w3 ⟨rfl, hb3⟩; have A3 := A2.next hb3; obtain ⟨c3, d30, d31, d32, f30, f31, f32⟩ := A3.facts; clear hb3))
    exact tok_ret (j := 2) rfl rfl rfl (tok_set A3.tok _ _ _) (by simp [tokC, HS.out, HGG.out]) ⟨rfl, A3.below3 _ _ _⟩
  · rw [if_neg h6] at hRB
    rw [hRB]
    have hne : ((c : Int) != 6) = true := by simp; omega
    clear hRB h6
    go_enter Tryz.func91, Tryz.ntmps91
    go_wp2_with fail
    rw [← hW0]
    go_wp2_with (first
      | (go_at_call 103; refine (HN.out _ (hG.below A0.below)).mono ?_; rintro e w1 ⟨rfl, hb1⟩; have A1 := A0.next hb1; obtain ⟨c1, d10, d11, d12, f10, f11, f12⟩ := A1.facts; clear hb1)
      | (go_at_call 104; refine (HC.out _ (hG.below A1.below)).mono ?_; rintro e w2 ⟨rfl, hb2⟩; have A2 := A1.next hb2; obtain ⟨c2, d20, d21, d22, f20, f21, f22⟩ := A2.facts; clear hb2))
    exact tok_ret (j := 2) rfl rfl rfl (tok_set A2.tok _ _ _) (by simp [tokC, noTk, bs_nil]) ⟨rfl, A2.below3 _ _ _⟩

set_option maxHeartbeats 2000000 in
/-- name(). -/
theorem name_c (T : List UInt8) (hT : T.length ≤ 10000) (w : World) :
    Calls Tryz.prog 94 #[.agg #[.string (bs T)]] w fun e W' => e = .returned (tokV (rW T)) ∧ Below w.heap.size w W' := by
  have hn := nOf_le isL T
  have hm := nOf_le isW T
  have hR := fun W => run_c _ isL kind_L T hT W
  have hQ := fun W => run_c _ isW kind_W T hT W
  obtain ⟨n, hnn⟩ : ∃ n, n = nOf isL T := ⟨_, rfl⟩
  obtain ⟨m, hmm⟩ : ∃ m, m = nOf isW T := ⟨_, rfl⟩
  obtain ⟨U, hU⟩ : ∃ U, U = bs (T.take m) := ⟨_, rfl⟩
  obtain ⟨s, hs⟩ : ∃ s, s = bs T := ⟨_, rfl⟩
  have hK := fun W => token_k T 5 m [] hT (by rw [hmm]; exact hm) s U ⟨#[]⟩ 5 hs hU rfl rfl W
  have hJ := fun W => token_k T 10 m [] hT (by rw [hmm]; exact hm) s U ⟨#[]⟩ 10 hs hU rfl rfl W
  have hRB : rW T = if n = 0 then noTk else if 20 < m then ⟨10, T.take m, []⟩ else ⟨5, T.take m, []⟩ := by rw [hnn, hmm]; rfl
  change ∀ W, Calls Tryz.prog _ _ W fun e W' => e = .returned (.int .i64 ((nOf isL T : Nat) : Int)) ∧ _ at hR
  change ∀ W, Calls Tryz.prog _ _ W fun e W' => e = .returned (.int .i64 ((nOf isW T : Nat) : Int)) ∧ _ at hQ
  rw [← hnn, ← hs] at hR
  rw [← hmm, ← hs] at hQ
  rw [← hnn] at hn
  rw [← hmm] at hm
  rw [← hs]
  have hn1 : n ≤ 10000 := by omega
  have hm1 : m ≤ 10000 := by omega
  obtain ⟨W0, hW0, A0⟩ := at_start w s
  have HR := Lib.hid hR
  have HQ := Lib.hid hQ
  have HK := Lib.hid hK
  have HJ := Lib.hid hJ
  have HU := Lib.hid hU
  obtain ⟨c0, _⟩ := A0.facts
  clear hR hQ hK hJ hs hU hn hnn hm hmm hT
  by_cases h0 : n = 0
  · subst h0
    rw [if_pos rfl] at hRB
    rw [hRB]
    clear hRB
    go_enter Tryz.func94, Tryz.ntmps94
    go_wp2_with fail
    rw [← hW0]
    go_wp2_with (first
      | (go_at_call 100; refine (HR.out _).mono ?_; rintro e w1 ⟨rfl, hb1⟩; have A1 := A0.next hb1; obtain ⟨c1, d10, d11, d12, f10, f11, f12⟩ := A1.facts; clear hb1 HR))
    exact tok_ret (j := 2) rfl rfl rfl (tok_set A1.tok _ _ _) (by simp [tokC, noTk, bs_nil]) ⟨rfl, A1.below3 _ _ _⟩
  rw [if_neg h0] at hRB
  have hne : ((n : Int) == 0) = false := by simp; exact h0
  by_cases h20 : 20 < m
  · rw [if_pos h20] at hRB
    rw [hRB]
    have hgt : decide ((20 : Int) < m) = true := by simp; omega
    clear hRB h0 h20
    go_enter Tryz.func94, Tryz.ntmps94
    go_wp2_with fail
    rw [← hW0]
    go_wp2_with (first
      | (go_at_call 100; refine (HR.out _).mono ?_; rintro e w1 ⟨rfl, hb1⟩; have A1 := A0.next hb1; obtain ⟨c1, d10, d11, d12, f10, f11, f12⟩ := A1.facts; clear hb1 HR)
      | (go_at_call 100; refine (HQ.out _).mono ?_; rintro e w2 ⟨rfl, hb2⟩; have A2 := A1.next hb2; obtain ⟨c2, d20, d21, d22, f20, f21, f22⟩ := A2.facts; clear hb2)
      | (go_at_call 102; refine (HJ.out _).mono ?_; rintro e w3 ⟨rfl, hb3⟩; have A3 := A2.next hb3; obtain ⟨c3, d30, d31, d32, f30, f31, f32⟩ := A3.facts; clear hb3))
    exact tok_ret (j := 2) rfl rfl rfl (tok_set A3.tok _ _ _) (by simp [tokC, bs_nil, HU.out]) ⟨rfl, A3.below3 _ _ _⟩
  · rw [if_neg h20] at hRB
    rw [hRB]
    have hgt : decide ((20 : Int) < m) = false := by simp; omega
    clear hRB h0 h20
    go_enter Tryz.func94, Tryz.ntmps94
    go_wp2_with fail
    rw [← hW0]
    go_wp2_with (first
      | (go_at_call 100; refine (HR.out _).mono ?_; rintro e w1 ⟨rfl, hb1⟩; have A1 := A0.next hb1; obtain ⟨c1, d10, d11, d12, f10, f11, f12⟩ := A1.facts; clear hb1 HR)
      | (go_at_call 100; refine (HQ.out _).mono ?_; rintro e w2 ⟨rfl, hb2⟩; have A2 := A1.next hb2; obtain ⟨c2, d20, d21, d22, f20, f21, f22⟩ := A2.facts; clear hb2)
      | (go_at_call 102; refine (HK.out _).mono ?_; rintro e w3 ⟨rfl, hb3⟩; have A3 := A2.next hb3; obtain ⟨c3, d30, d31, d32, f30, f31, f32⟩ := A3.facts; clear hb3))
    exact tok_ret (j := 2) rfl rfl rfl (tok_set A3.tok _ _ _) (by simp [tokC, bs_nil, HU.out]) ⟨rfl, A3.below3 _ _ _⟩
end Go.Proofs.YtdgffpcbpilkcaaGreatDoor
