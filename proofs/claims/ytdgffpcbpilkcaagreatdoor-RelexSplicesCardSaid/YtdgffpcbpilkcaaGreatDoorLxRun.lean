/- How many bytes of a kind come next: a range over a string. -/
import Derived.Test.YtdgffpcbpilkcaaGreatDoorGlClass
import Derived.Laws.RangeAny
namespace Go.Proofs.YtdgffpcbpilkcaaGreatDoor
open Go Go.RowKit Go.Shelf
attribute [local go_sem] Oper.semAt_some

theorem takeWhile_len {p : UInt8 → Bool} : ∀ {T : List UInt8} {k : Nat}, k ≤ T.length → (∀ j b, j < k → T[j]? = some b → p b = true) → (∀ b, T[k]? = some b → p b = false) → (T.takeWhile p).length = k
  | [], k, hk, _, _ => by simp at hk; subst hk; rfl
  | b :: r, 0, _, _, h2 => by simp [h2 b rfl]
  | b :: r, k + 1, hk, h1, h2 => by
    rw [List.takeWhile_cons, if_pos (h1 0 b (by omega) rfl), List.length_cons, takeWhile_len (k := k) (by simpa using hk) (fun j c hj e => h1 (j + 1) c (by omega) (by simpa using e)) (fun c e => h2 c (by simpa using e))]

/-- A kind of runes, as a function value: none but bytes below 128. -/
structure Kind (fp : Nat) (p : UInt8 → Bool) : Prop where
  ep : ∀ args w, (callFunc fp args).run Tryz.prog w = .ok (.enter fp args) w
  lo : ∀ (b : UInt8) (W : World), b.toNat < 128 → Calls Tryz.prog fp #[.int .i32 ((b.toNat : Nat) : Int)] W fun e W' => e = .returned (.bool (p b)) ∧ W' = W
  hi : ∀ (c : Nat) (W : World), 128 ≤ c → c ≤ 2147483647 → Calls Tryz.prog fp #[.int .i32 (c : Int)] W fun e W' => e = .returned (.bool false) ∧ W' = W
  no : ∀ b : UInt8, 128 ≤ b.toNat → p b = false

theorem bs_get {T : List UInt8} {k : Nat} (h : k < (bs T).size) : T[k]? = some ((bs T)[k]'h) := by
  have h2 : k < T.length := by simpa [bs, ByteArray.size] using h
  rw [List.getElem?_eq_getElem h2]
  rfl

set_option maxRecDepth 100000 in
set_option maxHeartbeats 4000000 in
theorem run_c (fp : Nat) (p : UInt8 → Bool) (hp : Kind fp p) (T : List UInt8) (hT : T.length ≤ 10000) (w : World) :
    Calls Tryz.prog 100 #[.agg #[.string (bs T)], .func (.func fp) #[] #[]] w fun e W' => e = .returned (.int .i64 (((T.takeWhile p).length : Nat) : Int)) ∧ Below w.heap.size w W' := by
  have eo := hp.ep
  have hsl : (bs T).size = T.length := by simp [bs, ByteArray.size]
  obtain ⟨s, hs⟩ : ∃ s, s = bs T := ⟨_, rfl⟩
  have hgt : ∀ (k : Nat) (h : k < s.size), T[k]? = some (s[k]'h) := by subst hs; exact fun k h => bs_get h
  rw [← hs] at hsl ⊢
  have HSL := Lib.hid hsl
  have hs1 : s.size ≤ 10000 := by omega
  clear hs hsl
  go_enter Tryz.func100, Tryz.ntmps100
  go_wp2_with fail
  rename_i K hK
  obtain ⟨W0, hW0⟩ : ∃ W0, W0 = w.alloc (.cells #[.string s] 144) := ⟨_, rfl⟩
  have hsz : W0.heap.size = w.heap.size + 1 := by rw [hW0]; simp
  have c0 : ∀ k, (W0.iter s k).cell? ⟨w.heap.size, 0, none⟩ = some (.string s) := fun k => by
    rw [hW0]
    have : Row ((w.alloc (.cells #[.string s] 144)).alloc (.stringIter s k)) w.heap.size 144 #[.string s] := (Row.new _ _ _).alloc _
    exact this.cell 0
  have hB : ∀ k, Below w.heap.size w (W0.iter s k) := fun k => by rw [hW0]; exact ((Below.refl _ w).alloc (Nat.le_refl _) _).alloc (by simp) _
  rw [← hW0]
  have hi : ∀ k ty, k < s.size → (Instr.next (.pointer (some ⟨w.heap.size + 1, 0, none⟩)) true ty).run Tryz.prog (W0.iter s k) = .ok (.tuple #[.bool true, .int .i64 k, .int .i32 (Utf8.decode s k).1]) (W0.iter s (k + (Utf8.decode s k).2)) := fun k ty hk => by rw [← hsz]; exact run_next_any W0 s k ty hk
  have hie : ∀ k ty, ¬ k < s.size → (Instr.next (.pointer (some ⟨w.heap.size + 1, 0, none⟩)) true ty).run Tryz.prog (W0.iter s k) = .ok (.tuple #[.bool false]) (W0.iter s k) := fun k ty hk => by rw [← hsz]; exact run_next_end W0 s k ty hk
  have hpos : ∀ k, (W0.iter s k).iterPos (w.heap.size + 1) = k := fun k => by rw [← hsz]; simp
  have HI := Lib.hid hi
  have HIE := Lib.hid hie
  have HC0 := Lib.hid c0
  have HBK := Lib.hid hB
  have HP := Lib.hid hp
  have HGT := Lib.hid hgt
  clear hi hie c0 hB hp hgt hW0 hsz
  go_loopw [] (fun wr => ∃ k : Nat, k ≤ s.size ∧ wr = W0.iter s k ∧ ∀ (j : Nat) b, j < k → T[j]? = some b → p b = true)
    (fun wr => s.size - wr.iterPos (w.heap.size + 1))
  case atStart => exact ⟨0, Nat.zero_le _, rfl, fun j b hj => by omega⟩
  case round =>
    obtain ⟨k, hk, rfl, hall⟩ := hrel
    have HA := Lib.hid hall
    clear hall
    by_cases hlt : k < s.size
    · by_cases ha : (s[k]'hlt).toNat < 128
      · have hdec := decode_ascii s k hlt ha
        have hnx := fun ty => HI.out k ty hlt
        rw [hdec] at hnx
        obtain ⟨b, hb⟩ : ∃ b, b = s[k]'hlt := ⟨_, rfl⟩
        rw [← hb] at ha hnx
        have HGB : Hid (T[k]? = some b) := Lib.hid (by rw [hb]; exact HGT.out k hlt)
        have hlo := HP.out.lo b (W0.iter s (k + 1)) ha
        have HLO := Lib.hid hlo
        clear hdec hb hlo
        cases hpb : p b with
        | true =>
          rw [hpb] at HLO
          have HPB := Lib.hid hpb
          clear hpb
          go_wp2_with (go_at_fn fp; refine HLO.out.mono ?_; rintro e w' ⟨rfl, rfl⟩)
          go_roundw
          case rel =>
            refine ⟨k + 1, by omega, rfl, fun j c hj hc => ?_⟩
            rcases Nat.lt_or_ge j k with h1 | h1
            · exact HA.out j c h1 hc
            · obtain rfl : j = k := by omega
              rw [HGB.out] at hc
              cases hc
              exact HPB.out
          case measure => rw [hpos, hpos]; omega
        | false =>
          rw [hpb] at HLO
          have HPB := Lib.hid hpb
          clear hpb
          go_wp2_with (go_at_fn fp; refine HLO.out.mono ?_; rintro e w' ⟨rfl, rfl⟩)
          go_ret
          refine ⟨?_, HBK.out _⟩
          rw [takeWhile_len (k := k) (by rw [← HSL.out]; omega) HA.out (fun c hc => by rw [HGB.out] at hc; cases hc; exact HPB.out)]
          rfl
      · have hdh := decode_high s k hlt (by omega)
        have hdl := decode_le s k
        have hnx := fun ty => HI.out k ty hlt
        obtain ⟨c, hc⟩ : ∃ c, c = (Utf8.decode s k).1 := ⟨_, rfl⟩
        obtain ⟨z, hz⟩ : ∃ z, z = (Utf8.decode s k).2 := ⟨_, rfl⟩
        rw [← hc, ← hz] at hnx
        rw [← hc] at hdh hdl
        have HHI := Lib.hid (HP.out.hi c (W0.iter s (k + z)) hdh.1 hdl)
        have HGB : Hid (T[k]? = some (s[k]'hlt)) := Lib.hid (HGT.out k hlt)
        have HNO : Hid (p (s[k]'hlt) = false) := Lib.hid (HP.out.no _ (by omega))
        clear hc hz hdh hdl ha
        go_wp2_with (go_at_fn fp; refine HHI.out.mono ?_; rintro e w' ⟨rfl, rfl⟩)
        go_ret
        refine ⟨?_, HBK.out _⟩
        rw [takeWhile_len (k := k) (by rw [← HSL.out]; omega) HA.out (fun c hc => by rw [HGB.out] at hc; cases hc; exact HNO.out)]
        rfl
    · obtain rfl : k = s.size := by omega
      have hnx := fun ty => HIE.out s.size ty hlt
      have hc0 := HC0.out s.size
      go_wp2
      go_ret
      refine ⟨?_, HBK.out _⟩
      rw [takeWhile_len (k := s.size) (by rw [← HSL.out]; omega) HA.out (fun c hc => by rw [List.getElem?_eq_none (by rw [← HSL.out]; omega)] at hc; cases hc)]
      rfl

/-- The four kinds. -/
theorem kind_of (fp : Nat) (p : UInt8 → Bool) (ep : ∀ args w, (callFunc fp args).run Tryz.prog w = .ok (.enter fp args) w) (hno : ∀ b : UInt8, 128 ≤ b.toNat → p b = false)
    (h : ∀ (c : Nat) (W : World), c ≤ 2147483647 → Calls Tryz.prog fp #[.int .i32 (c : Int)] W fun e W' => e = .returned (.bool (decide (c < 128) && p c.toUInt8)) ∧ W' = W) : Kind fp p where
  ep := ep
  lo := fun b W hb => by
    have := h b.toNat W (by omega)
    have e : (decide (b.toNat < 128) && p b.toNat.toUInt8) = p b := by simp [hb]
    rw [e] at this
    exact this
  hi := fun c W h1 h2 => by
    have := h c W h2
    have e : (decide (c < 128) && p c.toUInt8) = false := by simp; intro hh; omega
    rw [e] at this
    exact this
  no := hno
end Go.Proofs.YtdgffpcbpilkcaaGreatDoor
