/- The tokens of a line are gone through by a range over a function: the iterator's contract. -/
import Derived.Test.YtdgffpcbpilkcaaGreatDoorLxNext
import Derived.Test.YtdgffpcbpilkcaaGreatDoorLxRng
import Derived.Test.YtdgffpcbpilkcaaGreatDoorLxToks
import Derived.RangeFuncLeaves
import Derived.LoopNIn
import Derived.LoopIn
import Derived.Outline
namespace Go.Proofs.YtdgffpcbpilkcaaGreatDoor
open Go Go.RowKit Go.Shelf
attribute [local go_sem] Oper.semAt_some

theorem st_ok : ∀ T : List UInt8, T ≠ [] → 1 ≤ st T ∧ st T ≤ T.length := fun _ h => st_bounds h
/-- How many tokens. -/
def nT (T : List UInt8) : Nat := (toks st T 0).length
/-- The k-th token. -/
def tkAt (T : List UInt8) (k : Nat) : Tk := (toks st T 0).getD k noTk
/-- What the iterator yields. -/
def encK (T : List UInt8) (x : Ix (nT T)) : Array Value := #[tokV (tkAt T x.1)]
/-- How much is left, as it stands in memory. -/
def leftOf (B : Nat) (W : World) : Nat := match W.cell? ⟨B, 0, none⟩ with
  | some (.string s) => s.size
  | _ => 0
theorem leftOf_lexer {W : World} {B m : Nat} {U : List UInt8} (h : Lexer W B m U) : leftOf B W = U.length := by
  unfold leftOf
  rw [h.left]
  exact bs_size U
abbrev KT (n₀ : Nat) := KeepT 148 9 n₀
theorem Lexer.keep {n₀ B m : Nat} {W W' : World} {U : List UInt8} (h : Lexer W B m U) (k : KT n₀ W W') : Lexer W' B m U :=
  ⟨k.stab B _ h.row (.inl ⟨_, rfl⟩), k.stab m _ h.kinds (.inr (.inr ⟨_, _, rfl⟩)), Nat.lt_of_lt_of_le h.lt k.below.size⟩

/-- The state of the walk before token k: what is left, and a lexer of that. -/
structure Mid (T : List UInt8) (n₀ B m k : Nat) (U : List UInt8) (W : World) : Prop where
  lex : Lexer W B m U
  rest : toks st U 0 = (toks st T 0).drop k
  len : U.length ≤ T.length
  lg : LG W
theorem mid_more {T : List UInt8} {n₀ B m k : Nat} {U : List UInt8} {W : World} (h : Mid T n₀ B m k U W) (h0 : U ≠ []) : k < nT T ∧ tk1 st U = tkAt T k ∧ toks st (U.drop (tk1 st U).text.length) 0 = (toks st T 0).drop (k + 1) := by
  have h1 := h.rest
  rw [toks_cons st st_ok h0] at h1
  have hk : k < nT T := by
    unfold nT
    rcases Nat.lt_or_ge k (toks st T 0).length with h2 | h2
    · exact h2
    · rw [List.drop_eq_nil_of_le h2] at h1; cases h1
  rw [List.drop_eq_getElem_cons hk] at h1
  obtain ⟨h2, h3⟩ := List.cons.inj h1
  refine ⟨hk, ?_, h3⟩
  rw [h2]
  unfold tkAt
  rw [List.getD_eq_getElem?_getD, List.getElem?_eq_getElem hk]
  rfl
theorem mid_end {T : List UInt8} {n₀ B m k : Nat} {W : World} (h : Mid T n₀ B m k [] W) (hk : k ≤ nT T) : k = nT T := by
  have h1 := h.rest
  rw [toks_nil] at h1
  have := List.drop_eq_nil_iff.1 h1.symm
  unfold nT at hk ⊢
  omega

theorem two_allocs (W : World) (o1 o2 : Obj) (k : Nat) (o : Obj) (h : W.heap[k]? = some o) : ((W.alloc o1).alloc o2).drew.heap[k]? = some o :=
  ((Below.heap_alloc (W.alloc o1) o2 k (by rw [World.size_alloc]; have := (Array.getElem?_eq_some_iff.1 h).1; omega)).trans (Below.heap_alloc W o1 k (Array.getElem?_eq_some_iff.1 h).1)).trans h
theorem kinds_new (W : World) (o : Obj) : KindsAt ((W.alloc o).alloc (.map (ents 4) 4)).drew (W.heap.size + 1) := by
  have := World.alloc_heap_new (W.alloc o) (.map (ents 4) 4)
  rw [World.size_alloc] at this
  exact this

set_option maxRecDepth 100000 in
set_option maxHeartbeats 4000000 in
/-- The iterator's closure. -/
theorem tokens1_in (n : Nat) (hn : 1 ≤ n) (l Bs n₀ : Nat) (T : List UInt8) (hT : T.length ≤ 10000)
    (J Jx : List (Ix (nT T)) → World → Prop) (W : World) (hJ : AbT 148 W.heap.size J)
    (hg : 5 < n₀) (hg1 : 3 < n₀) (hg2 : 4 < n₀) (hn0 : n₀ ≤ W.heap.size)
    (hY : ∀ pre x W1, J pre W1 → pre.length < nT T → W.heap.size ≤ W1.heap.size → YieldAt Fence.wide (n - 1) Tryz.prog l (encK T x) W1 fun e W' =>
      (e = .returned (.bool true) ∧ J (pre ++ [x]) W' ∧ KT n₀ W1 W') ∨ (e = .returned (.bool false) ∧ Jx (pre ++ [x]) W'))
    (hBs : Row W Bs 9 #[.string (bs T)]) (hG : LG W) (h0 : J [] W) :
    CallsIn Fence.wide n Tryz.prog 83 #[.func (.yield l) #[] #[], .pointer (some ⟨Bs, 0, none⟩)] W fun e W' => (∃ v, e = .returned v) ∧
      ((∃ ys : List (Ix (nT T)), ys.map (·.1) = List.range (nT T) ∧ J ys W') ∨ (∃ pre : List (Ix (nT T)), (∃ k, k ≤ nT T ∧ pre.map (·.1) = List.range k) ∧ Jx pre W')) := by
  have hmix : Tryz.prog.follows .mixedOrders = true := by kernel_rfl
  have c0 : W.cell? ⟨Bs, 0, none⟩ = some (.string (bs T)) := by rw [hBs.cell]; rfl
  obtain ⟨s, hs⟩ : ∃ s, s = bs T := ⟨_, rfl⟩
  rw [← hs] at c0
  have HS := Lib.hid hs
  have HJ := Lib.hid hJ
  have HG := Lib.hid hG
  clear hs hJ hG
  refine callsIn_of_wp Tryz.func83 rfl trivial ?_ rfl
  simp only [Tryz.ntmps83, List.size_toArray, List.length_cons, List.length_nil, Nat.reduceAdd, Nat.reduceSub, Array.replicate_succ, Array.replicate_zero, List.push_toArray, List.append_toArray, List.nil_append, List.cons_append]
  have hbs := hBs.lt
  have hcell : ∀ V : World, Below W.heap.size W V → V.cell? ⟨Bs, 0, none⟩ = some (.string s) := fun V hb => (hb.cell (p := ⟨Bs, 0, none⟩) hbs).trans c0
  have ca := hcell _ ((Below.refl _ W).alloc (Nat.le_refl _) (.map (ents 4) 4))
  have cb := hcell _ ((Below.refl _ W).alloc (Nat.le_refl _) (.cells #[.string ⟨#[]⟩, .map none] 148))
  have cc := hcell _ (((Below.refl _ W).alloc (Nat.le_refl _) (.map (ents 4) 4)).alloc (by simp) (.cells #[.string ⟨#[]⟩, .map none] 148))
  have cd := hcell _ (((Below.refl _ W).alloc (Nat.le_refl _) (.cells #[.string ⟨#[]⟩, .map none] 148)).alloc (by simp) (.map (ents 4) 4))
  clear hcell
  gi_wp2
  rename_i Q' K hK
  have loop : ∀ (B m : Nat) (W1 : World), Row W1 B 148 #[.string s, .map (some m)] → KindsAt W1 m → m < W1.heap.size → Below W.heap.size W W1 → (∀ (k : Nat) (o : Obj), W.heap[k]? = some o → W1.heap[k]? = some o) → W.heap.size ≤ B → W.heap.size ≤ m →
      Exit.then K Q' Exit.normal { tmps := #[.func (.yield l) #[] #[], .pointer (some ⟨Bs, 0, none⟩), undef, .pointer (some ⟨B, 0, none⟩), .string s, .agg #[.string s], .map (some m), .agg #[.string s, .map (some m)], undef, undef, undef, undef, undef, undef, undef, undef], defers := [] } W1 := by
    intro B m W1 hrow hkinds hlt hb1 hall hB hm
    have hL1 : Lexer W1 B m T := ⟨by rw [← HS.out]; exact hrow, hkinds, hlt⟩
    clear hrow hkinds hlt
    refine hK _ _ ?_
    have HG1 := Lib.hid (HG.out.below hb1)
    have hJ1 := HJ.out _ _ _ h0 ⟨hb1, fun k o ho _ => hall k o ho⟩
    have hs1 := hb1.size
    clear ca cb cc cd c0 hmix HG hall
    gi_wp2
    gi_loopw [] (fun wr => ∃ (k : Nat) (pre : List (Ix (nT T))) (U : List UInt8), k ≤ nT T ∧ pre.map (·.1) = List.range k ∧ J pre wr ∧ Mid T n₀ B m k U wr ∧ W.heap.size ≤ wr.heap.size)
      (fun wr => leftOf B wr)
    case atStart => exact ⟨0, [], T, Nat.zero_le _, rfl, hJ1, ⟨hL1, rfl, Nat.le_refl _, HG1.out⟩, hs1⟩
    case round =>
      obtain ⟨k, pre, U, hk, hpre, hJs, hM, hs2⟩ := hrel
      have cU := hM.lex.left
      have hlo := leftOf_lexer hM.lex
      have HP := Lib.hid hpre
      have HM := Lib.hid hM
      have HJS := Lib.hid hJs
      have HLO := Lib.hid hlo
      clear hpre hM hJs hlo
      by_cases hU : U = []
      · subst hU
        have hkk := mid_end HM.out hk
        subst hkk
        have he : (bs []).toList.isEmpty = true := by decide +kernel
        gi_wp2
        go_end0
        exact ⟨⟨_, rfl⟩, .inl ⟨pre, HP.out, HJS.out⟩⟩
      · obtain ⟨hlt, hx, hr⟩ := mid_more HM.out hU
        obtain ⟨u, hu⟩ : ∃ u, u = bs U := ⟨_, rfl⟩
        have hne : u.toList.isEmpty = false := by rw [hu, ByteArray.toList_eq, bs_list]; simpa using hU
        have hN := next_c U (by have := HM.out.len; omega) hU B m wr HM.out.lg HM.out.lex
        have hlen := tk1_len st st_ok hU
        rw [hx] at hN hr hlen
        rw [← hu] at cU
        have HN := Lib.hid hN
        have HR := Lib.hid hr
        have HLEN := Lib.hid hlen
        have HPS : Hid ((pre ++ [(⟨k, hlt⟩ : Ix (nT T))]).map (·.1) = List.range (k + 1)) := range_snoc HP.out hlt
        obtain ⟨v, hv⟩ : ∃ v, v = tokV (tkAt T k) := ⟨_, rfl⟩
        rw [← hv] at HN
        have HV := Lib.hid hv
        clear hN hr hlen hx hu hU hv
        gi_wp2_with (refine ⟨trivial, ?_⟩; gi_at_call 85; refine (callsIn_wide.2 HN.out).mono ?_; rintro e w2 ⟨rfl, hL2, hk2, hs3, hb2⟩; have hJ2 := HJ.out _ _ _ HJS.out ⟨hb2.mono hB, fun k o ho hne => (hk2 k (Array.getElem?_eq_some_iff.1 ho).1 (fun e => by subst e; have hrw := HM.out.lex.row; rw [show wr.heap[k]? = _ from hrw] at ho; cases ho; exact hne _ rfl)).trans ho⟩; clear hk2; obtain ⟨fn, tmps, assign, body, hy, hRd⟩ := hY pre ⟨k, hlt⟩ w2 hJ2 (by rw [(inOrder_of HP.out).2]; exact hlt) (by omega); dsimp only [encK] at hy; rw [← HV.out] at hy; have L2 := Lib.hid hL2; have G2 := Lib.hid (HM.out.lg.belowN hb2 (by omega) (by omega) (by omega)); have HS3 := Lib.hid hs3; clear hL2 hb2 hJ2 hs3)
        refine hRd.mono ?_
        rintro e W3 (⟨rfl, hJ3, hk3⟩ | ⟨rfl, hJx3⟩)
        · have L3 := Lib.hid (L2.out.keep hk3)
          have G3 := Lib.hid (G2.out.belowN hk3.below hg hg1 hg2)
          have HS4 := Lib.hid hk3.below.size
          have HJ3 := Lib.hid hJ3
          clear hJ3 hk3
          gi_wp2
          go_roundw
          case rel => exact ⟨k + 1, pre ++ [⟨k, hlt⟩], _, by omega, HPS.out, HJ3.out, ⟨L3.out, HR.out, by have := HM.out.len; rw [List.length_drop]; omega, G3.out⟩, by have := HS3.out; have := HS4.out; omega⟩
          case measure =>
            rw [leftOf_lexer L3.out, HLO.out, List.length_drop]
            have := HLEN.out
            omega
        · gi_wp2
          refine bodyPost_ret (results_none rfl _ _ _) rfl ?_
          exact ⟨⟨_, rfl⟩, .inr ⟨_, ⟨k + 1, by omega, HPS.out⟩, hJx3⟩⟩
  gi_region_with_o ((refine ⟨trivial, ?_⟩; gi_at_call 84; refine (callsIn_wide.2 (kinds_c _)).mono ?_; rintro e w1 ⟨rfl, rfl⟩))
  all_goals first
    | exact loop (W.heap.size + 1) W.heap.size _ (Row.at _ _ _ _ (by simp)).drew ((Below.heap_alloc _ _ _ (by simp)).trans (World.alloc_heap_new W _)) (by show _ < (World.alloc _ _).heap.size; simp; omega) (((Below.refl _ W).alloc (Nat.le_refl _) _).alloc (by simp) _).drew (two_allocs W _ _) (by omega) (Nat.le_refl _)
    | exact loop W.heap.size (W.heap.size + 1) _ ((Row.new _ _ _).alloc _).drew (kinds_new W _) (by show _ < (World.alloc _ _).heap.size; simp) (((Below.refl _ W).alloc (Nat.le_refl _) _).alloc (by simp) _).drew (two_allocs W _ _) (Nat.le_refl _) (by omega)

/-- tokens(s): the function value. -/
theorem tokens_c (s : ByteArray) (w : World) :
    Calls Tryz.prog 75 #[.string s] w fun e w' => e = .returned (.func (.func 83) #[] #[.pointer (some ⟨w.heap.size, 0, none⟩)]) ∧ w' = w.alloc (.cells #[.string s] 9) := by
  go_enter Tryz.func75, Tryz.ntmps75
  go_wp2
  go_ret
  exact ⟨rfl, rfl⟩

theorem tokens_stops (n : Nat) (hn : 1 ≤ n) (Bs n₀ : Nat) (T : List UInt8) (hT : T.length ≤ 10000) (w : World) (hg : 5 < n₀) (hg1 : 3 < n₀) (hg2 : 4 < n₀) (hn0 : n₀ ≤ w.heap.size)
    (hBs : Row w Bs 9 #[.string (bs T)]) (hG : LG w) :
    SeqStopsT 148 Fence.wide n Tryz.prog 83 #[.pointer (some ⟨Bs, 0, none⟩)] (encK T) (KT n₀) (fun ys : List (Ix (nT T)) => ys.map (·.1) = List.range (nT T))
      (fun pre => ∃ k, k ≤ nT T ∧ pre.map (·.1) = List.range k) (nT T) w := fun l J Jx W hW hJ _ hY h0 =>
  tokens1_in n hn l Bs n₀ T hT J Jx W hJ hg hg1 hg2 (Nat.le_trans hn0 hW.size) hY (hBs.below hW hBs.lt) (hG.below hW) h0
end Go.Proofs.YtdgffpcbpilkcaaGreatDoor
