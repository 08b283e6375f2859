/- A token of the next bytes; the glyph that comes next. -/
import Derived.Test.YtdgffpcbpilkcaaGreatDoorLxKinds
namespace Go.Proofs.YtdgffpcbpilkcaaGreatDoor
open Go Go.RowKit Go.Shelf
attribute [local go_sem] Oper.semAt_some

theorem ext_take (T : List UInt8) (n : Nat) : (bs T).extract 0 n = bs (T.take n) := by
  have h : ((bs T).extract 0 n).data.toList = T.take n := by
    rw [ByteArray.data_extract]
    simp [bs]
  have := congrArg bs h
  rwa [bs_of] at this
theorem ext_drop (T : List UInt8) (n : Nat) : (bs T).extract n (bs T).size = bs (T.drop n) := by
  have h : ((bs T).extract n (bs T).size).data.toList = T.drop n := by
    rw [ByteArray.data_extract]
    simp [bs, ByteArray.size, List.take_of_length_le]
  have := congrArg bs h
  rwa [bs_of] at this
theorem ext_mid (T : List UInt8) (n m : Nat) : (bs T).extract n m = bs ((T.take m).drop n) := by
  have h : ((bs T).extract n m).data.toList = (T.take m).drop n := by
    rw [ByteArray.data_extract]
    simp [bs, List.drop_take]
  have := congrArg bs h
  rwa [bs_of] at this

/-- A token as a value. -/
def tokV (t : Tk) : Value := .agg #[.int .i64 ((t.kind : Nat) : Int), .string (bs t.text), .string (bs t.glyph)]
/-- A token's cells. -/
def tokC (t : Tk) : Array Value := #[.int .i64 ((t.kind : Nat) : Int), .string (bs t.text), .string (bs t.glyph)]

/-- A call ends that tells a token. -/
theorem tok_ret {f : Func} {j h : Nat} {R : Ending → World → Prop} {a : Act} {W : World} {t : Tk} {cs : Array Value} (hr : f.results = #[.cell j 55]) (ha : a.tmps[j]? = some (.pointer (some ⟨h, 0, none⟩))) (hd : a.defers = [])
    (hrow : Row W h 55 cs) (hc : cs = tokC t) (hR : R (.returned (tokV t)) W) : bodyPost Tryz.prog f R Exit.ret a W := by
  subst hc
  have d0 := hrow.cell 0
  have d1 := hrow.cell 1
  have d2 := hrow.cell 2
  simp [tokC] at d0 d1 d2
  refine bodyPost_ret (v := tokV t) ?_ hd hR
  simp [results, hr, ha, go_sem, d0, d1, d2, tokV]

set_option maxHeartbeats 1000000 in
theorem token_c (T : List UInt8) (kind n : Nat) (g : List UInt8) (hT : T.length ≤ 10000) (hn : n ≤ T.length) (w : World) :
    Calls Tryz.prog 102 #[.agg #[.string (bs T)], .int .i64 (kind : Int), .int .i64 (n : Int), .string (bs g)] w fun e W' => e = .returned (tokV ⟨kind, T.take n, g⟩) ∧ Below w.heap.size w W' := by
  obtain ⟨G, hG⟩ : ∃ G, G = bs g := ⟨_, rfl⟩
  obtain ⟨U, hU⟩ : ∃ U, U = bs (T.take n) := ⟨_, rfl⟩
  obtain ⟨s, hs⟩ : ∃ s, s = bs T := ⟨_, rfl⟩
  have hext : s.extract 0 n = U := by rw [hs, hU, ext_take]
  have hn2 : n ≤ s.size := by rw [hs, bs_size]; exact hn
  have hs2 : s.size ≤ 10000 := by rw [hs, bs_size]; exact hT
  have HU := Lib.hid hU
  have HG := Lib.hid hG
  rw [← hG, ← hs]
  clear hG hU hs hT hn
  go_enter Tryz.func102, Tryz.ntmps102
  go_wp2
  exact tok_ret (j := 8) rfl rfl rfl (Row.at _ _ _ _ (by simp)) (by simp [tokC, HU.out, HG.out]) ⟨rfl, ((Below.refl _ w).alloc (Nat.le_refl _) _).alloc (by simp) _⟩
end Go.Proofs.YtdgffpcbpilkcaaGreatDoor
