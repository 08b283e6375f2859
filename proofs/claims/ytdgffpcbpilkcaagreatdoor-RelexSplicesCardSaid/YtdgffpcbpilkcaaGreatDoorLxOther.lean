/- The last rule: a rune, or a byte alone. -/
import Derived.Test.YtdgffpcbpilkcaaGreatDoorLxRules
namespace Go.Proofs.YtdgffpcbpilkcaaGreatDoor
open Go Go.RowKit Go.Shelf
attribute [local go_sem] Oper.semAt_some

/-- How many bytes the next rune takes. -/
def st (T : List UInt8) : Nat := (Lib.decodeGo (bs T)).2
theorem get_lt (s : ByteArray) (k : Nat) (h : k < s.size) : s.get! k = s[k]'h := by
  unfold ByteArray.get!
  exact getElem!_pos s.data k h
theorem dec_bounds (s : ByteArray) (h : 0 < s.size) : 1 ≤ (Lib.decodeGo s).2 ∧ (Lib.decodeGo s).2 ≤ s.size := by
  unfold Lib.decodeGo
  rw [if_neg (by omega), Lib.decode_at]
  unfold Lib.decodeN
  repeat' split
  all_goals (refine ⟨?_, ?_⟩ <;> simp <;> omega)
theorem st_bounds {T : List UInt8} (h : T ≠ []) : 1 ≤ st T ∧ st T ≤ T.length := by
  have := dec_bounds (bs T) (by rw [bs_size]; exact List.length_pos_iff.2 h)
  rw [bs_size] at this
  exact this

/-- WHAT THE CALLS WANT: the glyphs' table, and the library's two on runes. -/
structure LG (W : World) : Prop where
  gl : Ground W
  tabs : Lib.Utf8Tabs 3 4 W
  lt1 : 3 < W.heap.size
  lt2 : 4 < W.heap.size
theorem LG.belowN {n : Nat} {w w' : World} (h : LG w) (hb : Below n w w') (hg : 5 < n) (h1 : 3 < n) (h2 : 4 < n) : LG w' where
  gl := h.gl.belowN hb hg
  tabs := ⟨fun c hc => (hb.cell (p := ⟨3, c, none⟩) h1).trans (h.tabs.1 c hc), fun i hi => ⟨(hb.cell (p := ⟨4, 2 * i, none⟩) h2).trans (h.tabs.2 i hi).1, (hb.cell (p := ⟨4, 2 * i + 1, none⟩) h2).trans (h.tabs.2 i hi).2⟩⟩
  lt1 := Nat.lt_of_lt_of_le h.lt1 hb.size
  lt2 := Nat.lt_of_lt_of_le h.lt2 hb.size
theorem LG.below {w w' : World} (h : LG w) (hb : Below w.heap.size w w') : LG w' := h.belowN hb h.gl.lt h.lt1 h.lt2

set_option maxHeartbeats 2000000 in
/-- other(). -/
theorem other_c (T : List UInt8) (hT : T.length ≤ 10000) (h0 : T ≠ []) (w : World) (hG : LG w) :
    Calls Tryz.prog 96 #[.agg #[.string (bs T)]] w fun e W' => e = .returned (tokV (rO st T)) ∧ Below w.heap.size w W' := by
  have hst := st_bounds h0
  have hD := fun W h => Tryz.utf8_DecodeRuneInString (bs T) W h
  obtain ⟨n, hn⟩ : ∃ n, n = st T := ⟨_, rfl⟩
  obtain ⟨c, hc⟩ : ∃ c : Int, c = (Lib.decodeGo (bs T)).1 := ⟨_, rfl⟩
  obtain ⟨U, hU⟩ : ∃ U, U = bs (T.take n) := ⟨_, rfl⟩
  have hRO : rO st T = ⟨10, T.take n, []⟩ := by rw [hn]; rfl
  have hn2 : (Lib.decodeGo (bs T)).2 = n := hn.symm
  obtain ⟨s, hs⟩ : ∃ s, s = bs T := ⟨_, rfl⟩
  have hK := fun W => token_k T 10 n [] hT (by rw [hn]; exact hst.2) s U ⟨#[]⟩ 10 hs hU rfl rfl W
  rw [← hn] at hst
  rw [hn2, ← hc, ← hs] at hD
  rw [hRO, ← hs]
  have hn1 : n ≤ 10000 := by omega
  obtain ⟨W0, hW0, A0⟩ := at_start w s
  have HD := Lib.hid hD
  have HK := Lib.hid hK
  have HU := Lib.hid hU
  obtain ⟨c0, _⟩ := A0.facts
  clear hD hK hs hU hc hRO hn2 hn hst hT h0
  go_enter Tryz.func96, Tryz.ntmps96
  go_wp2_with fail
  rw [← hW0]
  go_wp2_with (first
    | (go_at_call 88; refine (HD.out _ (hG.below A0.below).tabs).mono ?_; rintro e w1 ⟨rfl, hb1⟩; have A1 := A0.next hb1; obtain ⟨c1, d10, d11, d12, f10, f11, f12⟩ := A1.facts; clear hb1)
    | (go_at_call 102; refine (HK.out _).mono ?_; rintro e w2 ⟨rfl, hb2⟩; have A2 := A1.next hb2; obtain ⟨c2, d20, d21, d22, f20, f21, f22⟩ := A2.facts; clear hb2))
  exact tok_ret (j := 2) rfl rfl rfl (tok_set A2.tok _ _ _) (by simp [tokC, bs_nil, HU.out]) ⟨rfl, A2.below3 _ _ _⟩
end Go.Proofs.YtdgffpcbpilkcaaGreatDoor
