/- The plain lines: where they begin, what they say (by wip/gen/rs_ref.py). The plain line of a place: diaeresisref05.in. The plain splice (its first part by wip/gen/rs_splice.py). What a splice tells: the program and the plain answer tell the same. -/
import Derived.Test.YtdgffpcbpilkcaaGreatDoorRyF
import Derived.Test.YtdgffpcbpilkcaaGreatDoorRsBase
import Derived.WalkKit
import Derived.RangeFuncRecord
import Derived.OwnWalk
import Derived.Lib.Hide
import Derived.Laws.OwnMore
import Derived.Deep.AppendLies
import Derived.Outline
import Derived.Lib.Strings
/- The plain lines: where they begin, what they say (by wip/gen/rs_ref.py). -/
namespace Go.Proofs.YtdgffpcbpilkcaaGreatDoor
namespace Rs
open Go Go.RowKit

/-- Numbers as cells. -/
def ints (L : List Nat) : List Value := L.map fun (x : Nat) => Value.int .i64 (x : Int)
theorem ints_len (L : List Nat) : (ints L).length = L.length := by simp [ints]
/-- The line begins among the first k places. -/
def starts (T : List UInt8) : Nat → List Nat
  | 0 => [0]
  | k + 1 => if T[k]? = some 10 then starts T k ++ [k + 1] else starts T k
theorem starts_len (T : List UInt8) : ∀ k, 1 ≤ (starts T k).length ∧ (starts T k).length ≤ k + 1
  | 0 => ⟨Nat.le_refl _, Nat.le_refl _⟩
  | k + 1 => by
    have := starts_len T k
    unfold starts
    split
    · rw [List.length_append, List.length_singleton]; omega
    · omega

theorem Tryz.infoInt : (Tryz.prog.info? 3).map (fun i => (i.zero, i.size, i.bytes)) = some (some (.int .i64 0), 1, 8) := by kernel_rfl

/-- A slice of numbers that the call owns. -/
abbrev Own (W : World) (base : Nat) (v : Value) (L : List Nat) : Prop := W.ownsRow base 3 1 v L.length (ints L)

set_option maxHeartbeats 2000000 in
set_option maxRecDepth 100000 in
theorem rlines (w : World) (s : ByteArray) (hs : s.size ≤ 4010) :
    Calls Tryz.prog 12 #[.string s] w fun e W' => ∃ v, e = .returned v ∧ Own W' w.heap.size v (starts s.data.toList s.size) ∧ Below w.heap.size w W' := by
  obtain ⟨i0, hi, hz0, hz1, hz2⟩ := info_parts Tryz.infoInt
  have hD : Below w.heap.size w (w.alloc (.cells #[.int .i64 0] 3)) := (Below.refl _ w).alloc (Nat.le_refl _) _
  have hO : Own (w.alloc (.cells #[.int .i64 0] 3)) w.heap.size (.slice (some ⟨w.heap.size, 0, none⟩) 1 1) (starts s.data.toList 0) :=
    World.ownsRow_lit w #[.int .i64 0] 1 (Nat.le_refl _) (by unfold maxLen; omega) rfl
  go_enter Tryz.func12, Tryz.ntmps12
  go_wp2
  go_loopw [3, 4] (fun u i wr => ∃ k : Nat, k ≤ s.size ∧ i = .int .i64 k ∧ Own wr w.heap.size u (starts s.data.toList k) ∧ Below w.heap.size w wr)
    (fun _ i _ => s.size - (intOf i).toNat)
  case atStart => exact ⟨0, Nat.zero_le _, rfl, hO, hD⟩
  case round =>
    obtain ⟨k, hk, rfl, hown, hB⟩ := hrel
    have HO := Lib.hid hown
    have HB := Lib.hid hB
    have hbs := hB.size
    clear hown hB hO hD
    by_cases hlt : k < s.size
    · by_cases h10 : s[k] = 10
      · have t10 : ((s[k].toNat : Int) == 10) = true := by rw [h10]; rfl
        have HK : Hid (starts s.data.toList (k + 1) = starts s.data.toList k ++ [k + 1]) := Lib.hid (by show (if _ then _ else _) = _; rw [byte_at s k hlt, h10, if_pos rfl])
        have hsl := (starts_len s.data.toList k).2
        have hc1 : ∀ (j : Nat) (u : Value), [Value.int .i64 ((k : Int) + 1)][j]? = some u → (wr.alloc (.cells #[.int .i64 ((k : Int) + 1)] 3)).cell? ((⟨wr.heap.size, 0, none⟩ : Addr).add j) = some u :=
          World.news_of_block (World.alloc_heap_new wr (.cells #[.int .i64 ((k : Int) + 1)] 3))
        have hc2 : ∀ u ∈ [Value.int .i64 ((k : Int) + 1)], u.oneCell' = true := by intro u hu; simp at hu; subst hu; rfl
        have H1 := Lib.hid hc1
        have H2 := Lib.hid hc2
        have H3 : Hid ((starts s.data.toList k).length + 1 ≤ maxLen ∧ ((starts s.data.toList k).length + 1) * 8 ≤ 140737488355328) := Lib.hid ⟨by unfold maxLen; omega, by omega⟩
        have H5 : Hid (w.heap.size ≤ (wr.alloc (.cells #[.int .i64 ((k : Int) + 1)] 3)).heap.size) := Lib.hid (by rw [World.size_alloc]; omega)
        clear hc1 hc2 hsl
        go_wp2_with (at_builtin; refine wpList_append_lies _ rfl (.tmp 16) (.tmp 19) 29 rfl w.heap.size 3 i0 (.int .i64 0) 1 8 Tryz.underlying29 hi hz0 hz1 hz2 rfl (by decide) u3 _ _ rfl (HO.out.alloc _) ⟨wr.heap.size, 0, none⟩ 1 1 [.int .i64 ((k : Int) + 1)] rfl rfl H1.out H2.out (by decide) H3.out.1 H3.out.2 H5.out _ rfl ?_; intro g cap w1 hown' hgrow hat hlt1; have HG := Lib.hid hgrow; have HO1 := Lib.hid hown'; clear hown' hgrow hat hlt1)
        have hlt2 := HO.out.lt
        have h9 : Below w.heap.size w w1 := (HB.out.alloc hbs _).grown HG.out H5.out (fun j ej => (hlt2 j ej).1)
        have HN : Hid (Own w1 w.heap.size (.slice (some ⟨g, 0, none⟩) ((starts s.data.toList k).length + 1) cap) (starts s.data.toList (k + 1)) ∧ Below w.heap.size w w1) := Lib.hid (by
          refine ⟨?_, h9⟩
          have e1 : (starts s.data.toList (k + 1)).length = (starts s.data.toList k).length + 1 := by rw [HK.out, List.length_append, List.length_singleton]
          have e2 : ints (starts s.data.toList (k + 1)) = ints (starts s.data.toList k) ++ [.int .i64 ((k : Int) + 1)] := by rw [HK.out]; simp [ints]
          unfold Own
          rw [e1, e2]
          exact HO1.out)
        clear h9 hlt2 H1 H2 H3 H5 HG HO1 HO HB HK
        go_wp2
        go_roundw
        case rel => exact ⟨k + 1, by omega, by go_num, HN.out.1, HN.out.2⟩
        case measure => simp [intOf]; omega
      · have t10 : ((s[k].toNat : Int) == 10) = false := beq_eq_false_iff_ne.2 (fun e => h10 (UInt8.toNat_inj.1 (by show s[k].toNat = 10; omega)))
        have HK : Hid (starts s.data.toList (k + 1) = starts s.data.toList k) := Lib.hid (by show (if _ then _ else _) = _; rw [byte_at s k hlt, if_neg (fun e => h10 (Option.some.inj e))])
        go_wp2
        go_roundw
        case rel => exact ⟨k + 1, by omega, by go_num, by rw [HK.out]; exact HO.out, HB.out⟩
        case measure => simp [intOf]; omega
    · obtain rfl : k = s.size := by omega
      go_wp2
      go_ret
      exact ⟨_, rfl, HO.out, HB.out⟩

/-- Where line n begins, and where it ends. -/
def lineAt (T : List UInt8) (n : Nat) : Nat := (starts T T.length).getD n 0
def lineEnd (T : List UInt8) (n : Nat) : Nat := if n + 1 < (starts T T.length).length then lineAt T (n + 1) - 1 else T.length

/-- Each is behind the one ahead; all lie within the text. -/
theorem starts_le (T : List UInt8) : ∀ k, ∀ x ∈ starts T k, x ≤ k
  | 0, x, h => by simp [starts] at h; omega
  | k + 1, x, h => by
    unfold starts at h
    split at h
    · rcases List.mem_append.1 h with h | h
      · have := starts_le T k x h; omega
      · simp at h; omega
    · have := starts_le T k x h; omega
theorem starts_up (T : List UInt8) : ∀ k i j, i < j → j < (starts T k).length → (starts T k).getD i 0 < (starts T k).getD j 0
  | 0, i, j, h, hj => by simp [starts] at hj; omega
  | k + 1, i, j, h, hj => by
    unfold starts at hj ⊢
    split
    · rename_i h10
      rw [if_pos h10, List.length_append, List.length_singleton] at hj
      by_cases hjl : j < (starts T k).length
      · have := starts_up T k i j h hjl
        simp only [List.getD_eq_getElem?_getD] at this ⊢
        rw [List.getElem?_append_left (by omega), List.getElem?_append_left hjl]
        exact this
      · obtain rfl : j = (starts T k).length := by omega
        simp only [List.getD_eq_getElem?_getD]
        rw [List.getElem?_append_left h, List.getElem?_append_right (Nat.le_refl _), Nat.sub_self]
        have hm : (starts T k)[i]? = some ((starts T k)[i]'h) := List.getElem?_eq_getElem h
        rw [hm]
        have := starts_le T k _ (List.getElem_mem h)
        show _ < k + 1
        simp
        omega
    · rename_i h10
      rw [if_neg h10] at hj
      exact starts_up T k i j h hj

/-- The cells of a slice of numbers that the call owns. -/
theorem own_form {W : World} {base : Nat} {v : Value} {L : List Nat} (h : Own W base v L) (h0 : 0 < L.length) :
    ∃ g cap, v = .slice (some ⟨g, 0, none⟩) L.length cap ∧ base ≤ g ∧ g < W.heap.size ∧ ∀ j, j < L.length → W.cell? ⟨g, j, none⟩ = some (.int .i64 ((L.getD j 0 : Nat) : Int)) := by
  obtain ⟨g, cap, rfl, hb, hlt⟩ := h.form h0
  refine ⟨g, cap, rfl, hb, hlt, fun j hj => ?_⟩
  rw [h.cellAt j (by omega)]
  simp [ints, hj]

set_option maxHeartbeats 2000000 in
set_option maxRecDepth 100000 in
theorem rline_no (w : World) (s : ByteArray) (n : Int) (hs : s.size ≤ 4010) (hn : n < 0 ∨ ((starts s.data.toList s.size).length : Int) ≤ n) :
    Calls Tryz.prog 19 #[.string s, .int .i64 n] w fun e W' => e = .returned (.tuple #[.string ⟨#[]⟩, .int .i64 20]) ∧ Below w.heap.size w W' := by
  have hl := starts_len s.data.toList s.size
  obtain ⟨L, hL⟩ : ∃ L, L = starts s.data.toList s.size := ⟨_, rfl⟩
  have HL := Lib.hid hL
  rw [← hL] at hl hn
  clear hL
  have h1 : 0 < L.length := by omega
  have h2 : L.length ≤ 4011 := by omega
  by_cases c1 : n < 0
  · clear hn
    go_enter Tryz.func19, Tryz.ntmps19
    go_wp2_with fail
    refine (rlines _ s hs).mono ?_
    rw [← HL.out]
    rintro e w1 ⟨v, rfl, ho, hb⟩
    obtain ⟨g, cap, rfl, _, _, _⟩ := own_form ho h1
    have HB := Lib.hid hb
    clear hb ho
    go_wp2
    go_ret2
    exact ⟨rfl, HB.out⟩
  · have c2 : (L.length : Int) ≤ n := by omega
    clear hn
    go_enter Tryz.func19, Tryz.ntmps19
    go_wp2_with fail
    refine (rlines _ s hs).mono ?_
    rw [← HL.out]
    rintro e w1 ⟨v, rfl, ho, hb⟩
    obtain ⟨g, cap, rfl, _, _, _⟩ := own_form ho h1
    have HB := Lib.hid hb
    clear hb ho
    go_wp2
    go_ret2
    exact ⟨rfl, HB.out⟩

set_option maxHeartbeats 2000000 in
set_option maxRecDepth 100000 in
theorem rline_ok (w : World) (s : ByteArray) (n : Nat) (hs : s.size ≤ 4010) (hn : n < (starts s.data.toList s.size).length) :
    Calls Tryz.prog 19 #[.string s, .int .i64 (n : Int)] w fun e W' => e = .returned (.tuple #[.string (s.extract (lineAt s.data.toList n) (lineEnd s.data.toList n)), .int .i64 0]) ∧ Below w.heap.size w W' := by
  have hT : s.data.toList.length = s.size := (Lib.size_eq s).symm
  have hl := starts_len s.data.toList s.size
  have hup := starts_up s.data.toList s.size
  have hle := starts_le s.data.toList s.size
  unfold lineEnd lineAt
  rw [hT]
  obtain ⟨L, hL⟩ : ∃ L, L = starts s.data.toList s.size := ⟨_, rfl⟩
  have HL := Lib.hid hL
  rw [← hL] at hl hn hup hle
  rw [← hL]
  clear hL hT
  have h1 : 0 < L.length := by omega
  have h2 : L.length ≤ 4011 := by omega
  have hmem : ∀ j, j < L.length → L.getD j 0 ≤ s.size := fun j hj => hle _ (by rw [List.getD_eq_getElem?_getD, List.getElem?_eq_getElem hj]; exact List.getElem_mem hj)
  obtain ⟨a, ha⟩ : ∃ a, a = L.getD n 0 := ⟨_, rfl⟩
  have ha1 : a ≤ s.size := by rw [ha]; exact hmem n hn
  obtain ⟨n1, hn1⟩ : ∃ n1 : Nat, (n : Int) + 1 = (n1 : Int) := ⟨n + 1, by omega⟩
  have hn1' : n1 = n + 1 := by omega
  rw [← hn1', ← ha]
  have c0 : ¬ (n : Int) < 0 := by omega
  have c1 : ¬ (L.length : Int) ≤ (n : Int) := by omega
  have c1' : ¬ L.length ≤ n := by omega
  by_cases hlast : n1 < L.length
  · rw [if_pos hlast]
    obtain ⟨b, hb⟩ : ∃ b, b = L.getD n1 0 := ⟨_, rfl⟩
    have hb1 : b ≤ s.size := by rw [hb]; exact hmem n1 hlast
    have hab : a < b := by rw [ha, hb]; exact hup n n1 (by omega) hlast
    obtain ⟨e, he⟩ : ∃ e : Nat, (b : Int) - 1 = (e : Int) := ⟨b - 1, by omega⟩
    have he' : b - 1 = e := by omega
    have hae : a ≤ e := by omega
    have hes : e ≤ s.size := by omega
    rw [← hb, he']
    have c2 : (n1 : Int) < (L.length : Int) := by omega
    have HA := Lib.hid ha
    have HBB := Lib.hid hb
    have HM := Lib.hid hn1'
    clear ha hb hn1' hl hup hle hmem he' hab
    go_enter Tryz.func19, Tryz.ntmps19
    go_wp2_with fail
    refine (rlines _ s hs).mono ?_
    rw [← HL.out]
    rintro e w1 ⟨v, rfl, ho, hb⟩
    obtain ⟨g, cap, rfl, _, _, hcell⟩ := own_form ho h1
    have d0 := hcell n hn
    have d1 := hcell n1 hlast
    rw [← HA.out] at d0
    rw [← HBB.out] at d1
    have HB := Lib.hid hb
    clear hb ho hcell
    go_wp2
    go_ret2
    exact ⟨rfl, HB.out⟩
  · rw [if_neg hlast]
    have c2 : ¬ (n1 : Int) < (L.length : Int) := by omega
    have HA := Lib.hid ha
    have HM := Lib.hid hn1'
    clear ha hn1' hl hup hle hmem
    go_enter Tryz.func19, Tryz.ntmps19
    go_wp2_with fail
    refine (rlines _ s hs).mono ?_
    rw [← HL.out]
    rintro e w1 ⟨v, rfl, ho, hb⟩
    obtain ⟨g, cap, rfl, _, _, hcell⟩ := own_form ho h1
    have d0 := hcell n hn
    rw [← HA.out] at d0
    have HB := Lib.hid hb
    clear hb ho hcell
    go_wp2
    go_ret2
    exact ⟨rfl, HB.out⟩
end Rs
end Go.Proofs.YtdgffpcbpilkcaaGreatDoor

/- The plain line of a place: diaeresisref05.in. -/
namespace Go.Proofs.YtdgffpcbpilkcaaGreatDoor
namespace Rs
open Go Go.RowKit

theorem starts_succ (T : List UInt8) (k : Nat) : starts T (k + 1) = if T[k]? = some 10 then starts T k ++ [k + 1] else starts T k := rfl
theorem starts_more (T : List UInt8) (k : Nat) : ∀ j, ∃ R, starts T (k + j) = starts T k ++ R ∧ ∀ x ∈ R, k < x
  | 0 => ⟨[], by simp, by simp⟩
  | j + 1 => by
    obtain ⟨R, h1, h2⟩ := starts_more T k j
    rw [show k + (j + 1) = (k + j) + 1 by omega, starts_succ]
    split
    · refine ⟨R ++ [k + j + 1], by rw [h1, List.append_assoc], fun x hx => ?_⟩
      rcases List.mem_append.1 hx with hx | hx
      · exact h2 x hx
      · simp at hx; omega
    · exact ⟨R, h1, h2⟩
theorem starts_count (T : List UInt8) : ∀ k, (starts T k).length = (T.take k).count 10 + 1
  | 0 => rfl
  | k + 1 => by
    have ih := starts_count T k
    unfold starts
    rw [List.take_add_one, List.count_append]
    split
    · rename_i h
      rw [h, List.length_append, ih]
      simp
    · rename_i h
      rw [ih]
      cases hk : T[k]? with
      | none => simp
      | some x =>
        have hx : ¬ x = 10 := fun e => h (by rw [hk, e])
        simp [hx]
/-- Which of a text's line begins lie at or ahead of place a. -/
theorem starts_split (T : List UInt8) (a : Nat) (ha : a ≤ T.length) (i : Nat) (hi : i < (starts T T.length).length) :
    (i < (T.take a).count 10 + 1 → (starts T T.length).getD i 0 ≤ a) ∧ ((T.take a).count 10 + 1 ≤ i → a < (starts T T.length).getD i 0) := by
  obtain ⟨R, h1, h2⟩ := starts_more T a (T.length - a)
  rw [show a + (T.length - a) = T.length by omega] at h1
  have hc := starts_count T a
  rw [h1] at hi ⊢
  rw [List.length_append] at hi
  constructor
  · intro h
    have : (starts T a).getD i 0 ∈ starts T a := by
      rw [List.getD_eq_getElem?_getD, List.getElem?_eq_getElem (by omega)]
      exact List.getElem_mem _
    have := starts_le T a _ this
    rw [List.getD_eq_getElem?_getD, List.getElem?_append_left (by omega), ← List.getD_eq_getElem?_getD]
    exact this
  · intro h
    rw [List.getD_eq_getElem?_getD, List.getElem?_append_right (by omega), List.getElem?_eq_getElem (by omega)]
    exact h2 _ (List.getElem_mem _)

set_option maxHeartbeats 2000000 in
set_option maxRecDepth 100000 in
theorem in_c (w : World) (s : ByteArray) (hs : s.size ≤ 4010) (a : Nat) (ha : a ≤ s.size) :
    Calls Tryz.prog 27 #[.string s, .int .i64 (a : Int)] w fun e W' => e = .returned (.int .i64 (((s.data.toList.take a).count 10 : Nat) : Int)) ∧ Below w.heap.size w W' := by
  have hl := starts_len s.data.toList s.size
  have hsp := fun i => starts_split s.data.toList a (by rw [← Lib.size_eq]; exact ha) i
  rw [← Lib.size_eq] at hsp
  have hcL : (s.data.toList.take a).count 10 + 1 ≤ (starts s.data.toList s.size).length := by
    obtain ⟨R, h1, _⟩ := starts_more s.data.toList a (s.size - a)
    rw [show a + (s.size - a) = s.size by omega] at h1
    rw [h1, List.length_append, starts_count]
    omega
  have HR := Lib.hid (rlines w s hs)
  obtain ⟨L, hL⟩ : ∃ L, L = starts s.data.toList s.size := ⟨_, rfl⟩
  obtain ⟨m, hm⟩ : ∃ m, m = (s.data.toList.take a).count 10 := ⟨_, rfl⟩
  rw [← hL] at hl hsp hcL HR
  rw [← hm] at hsp hcL
  rw [← hm]
  have h1 : 0 < L.length := by omega
  have h2 : L.length ≤ 4011 := by omega
  have HSP := Lib.hid hsp
  clear hL hm hl hsp
  go_enter Tryz.func27, Tryz.ntmps27
  go_wp2_with fail
  refine HR.out.mono ?_
  rintro e w1 ⟨v, rfl, ho, hb⟩
  obtain ⟨g, cap, rfl, _, _, hcell⟩ := own_form ho h1
  have HB := Lib.hid hb
  have HC := Lib.hid hcell
  clear hb ho hcell
  go_wp2
  go_loopw [6, 7] (fun n i wr => ∃ k : Nat, k ≤ L.length ∧ i = .int .i64 k ∧ n = .int .i64 ((min k (m + 1) - 1 : Nat) : Int) ∧ w1 = wr)
    (fun _ i _ => L.length - (intOf i).toNat)
  case atStart => exact ⟨0, Nat.zero_le _, rfl, by simp, rfl⟩
  case round =>
    obtain ⟨k, hk, rfl, rfl, hw⟩ := hrel
    obtain rfl := hw
    by_cases hlt : k < L.length
    · have d := HC.out k hlt
      have hsp := HSP.out k hlt
      obtain ⟨y, hy⟩ : ∃ y, y = L.getD k 0 := ⟨_, rfl⟩
      rw [← hy] at d hsp
      by_cases hle : k < m + 1
      · have hya := hsp.1 hle
        have hmn : min (k + 1) (m + 1) - 1 = k := by omega
        have HMN := Lib.hid hmn
        have t1 : ¬ (a : Int) < (y : Int) := by omega
        have t2 : (y : Int) ≤ (a : Int) := by omega
        clear hsp hy hmn
        go_wp2
        go_roundw
        case rel => exact ⟨k + 1, by omega, by simp, by rw [HMN.out], trivial⟩
        case measure => simp [intOf]; omega
      · have hya := hsp.2 (by omega)
        have hmn : min (k + 1) (m + 1) - 1 = min k (m + 1) - 1 := by omega
        have HMN := Lib.hid hmn
        have t1 : (a : Int) < (y : Int) := by omega
        have t2 : ¬ (y : Int) ≤ (a : Int) := by omega
        clear hsp hy hmn
        go_wp2
        go_roundw
        case rel => exact ⟨k + 1, by omega, by simp, by rw [HMN.out], trivial⟩
        case measure => simp [intOf]; omega
    · obtain rfl : k = L.length := by omega
      have hmn : min L.length (m + 1) - 1 = m := by omega
      rw [hmn]
      clear hmn
      go_wp2
      go_ret
      exact ⟨rfl, HB.out⟩
end Rs
end Go.Proofs.YtdgffpcbpilkcaaGreatDoor

/- The plain splice (its first part by wip/gen/rs_splice.py). -/
namespace Go.Proofs.YtdgffpcbpilkcaaGreatDoor
namespace Rs
open Go Go.RowKit Go.Shelf
attribute [local go_sem] Oper.semAt_some

set_option maxHeartbeats 1000000 in
set_option maxRecDepth 100000 in
theorem rsplice_range (w : World) (t : ByteArray) (a m : Int) (s : ByteArray) (h0 : t.size ≤ 4010) (h : ¬ okSpan t.size a m) :
    Calls Tryz.prog 26 #[.string t, .int .i64 a, .int .i64 m, .string s] w fun e W' => e = .returned (.tuple #[.string t, .int .i64 10]) ∧ w = W' := by
  have h' := h
  unfold okSpan at h'
  clear h
  by_cases p1 : a < 0
  · have t1 : decide (a < 0) = true := by simp; omega
    clear h'
    go_enter Tryz.func26, Tryz.ntmps26
    go_wp2
    go_ret2
    exact ⟨rfl, rfl⟩
  · have t1 : decide (a < 0) = false := by simp; omega
    by_cases p2 : (t.size : Int) < a
    · have t2 : decide ((t.size : Int) < a) = true := by simp; omega
      clear h'
      go_enter Tryz.func26, Tryz.ntmps26
      go_wp2
      go_ret2
      exact ⟨rfl, rfl⟩
    · have t2 : decide ((t.size : Int) < a) = false := by simp; omega
      by_cases p3 : m < 0
      · have t3 : decide (m < 0) = true := by simp; omega
        clear h'
        go_enter Tryz.func26, Tryz.ntmps26
        go_wp2
        go_ret2
        exact ⟨rfl, rfl⟩
      · have t3 : decide (m < 0) = false := by simp; omega
        have p4 : (t.size : Int) - a < m := by omega
        have t4 : decide ((t.size : Int) - a < m) = true := by simp; omega
        clear h'
        go_enter Tryz.func26, Tryz.ntmps26
        go_wp2
        go_ret2
        exact ⟨rfl, rfl⟩

set_option maxHeartbeats 1000000 in
set_option maxRecDepth 100000 in
theorem rsplice_full (w : World) (t : ByteArray) (a m : Nat) (s : ByteArray) (h : a + m ≤ t.size) (h0 : t.size ≤ 4010) (hs : s.size ≤ 4010) (hf : 4000 < t.size - m + s.size) :
    Calls Tryz.prog 26 #[.string t, .int .i64 (a : Int), .int .i64 (m : Int), .string s] w fun e W' => e = .returned (.tuple #[.string t, .int .i64 11]) ∧ w = W' := by
  have t1 : decide ((a : Int) < 0) = false := by simp
  have t2 : decide ((t.size : Int) < (a : Int)) = false := by simp; omega
  have t2' : decide (t.size < a) = false := by simp; omega
  have t3 : decide ((m : Int) < 0) = false := by simp
  have t4 : decide ((t.size : Int) - (a : Int) < (m : Int)) = false := by simp; omega
  have t5 : decide ((4000 : Int) < (t.size : Int) - (m : Int) + (s.size : Int)) = true := by simp; omega
  go_enter Tryz.func26, Tryz.ntmps26
  go_wp2
  go_ret2
  exact ⟨rfl, rfl⟩

set_option maxHeartbeats 1000000 in
set_option maxRecDepth 100000 in
theorem rsplice_ok (w : World) (t : ByteArray) (a m b : Nat) (s : ByteArray) (es : (a : Int) + (m : Int) = (b : Int)) (h : b ≤ t.size) (h2 : a ≤ t.size) (h0 : t.size ≤ 4010) (hs : s.size ≤ 4010) (hf : t.size - m + s.size ≤ 4000) :
    Calls Tryz.prog 26 #[.string t, .int .i64 (a : Int), .int .i64 (m : Int), .string s] w fun e W' => e = .returned (.tuple #[.string (t.extract 0 a ++ s ++ t.extract b t.size), .int .i64 0]) ∧ Below w.heap.size w W' := by
  have t1 : decide ((a : Int) < 0) = false := by simp
  have t2 : decide ((t.size : Int) < (a : Int)) = false := by simp; omega
  have t2' : decide (t.size < a) = false := by simp; omega
  have t3 : decide ((m : Int) < 0) = false := by simp
  have t4 : decide ((t.size : Int) - (a : Int) < (m : Int)) = false := by simp; omega
  have t5 : decide ((4000 : Int) < (t.size : Int) - (m : Int) + (s.size : Int)) = false := by simp; omega
  have HD := Lib.hid (Below.refl w.heap.size w).drew
  go_enter Tryz.func26, Tryz.ntmps26
  go_wp2_with fail
  go_region
  all_goals
    go_wp2
    go_ret2
    exact ⟨rfl, HD.out⟩

/-! ### The changes -/
theorem ch_ret {f : Func} {i j k h : Nat} {R : Ending → World → Prop} {a : Act} {W : World} {u v x y z : Value} (hr : f.results = #[.tmp i, .cell j 33, .tmp k]) (hu : a.tmps[i]? = some u) (ha : a.tmps[j]? = some (.pointer (some ⟨h, 0, none⟩))) (hv : a.tmps[k]? = some v) (hd : a.defers = [])
    (hrow : Row W h 33 #[x, y, z]) (hR : R (.returned (.tuple #[u, .agg #[x, y, z], v])) W) : bodyPost Tryz.prog f R Exit.ret a W := by
  have d0 := hrow.cell 0
  have d1 := hrow.cell 1
  have d2 := hrow.cell 2
  simp only [List.getElem?_toArray, List.getElem?_cons_zero, List.getElem?_cons_succ] at d0 d1 d2
  refine bodyPost_ret (v := .tuple #[u, .agg #[x, y, z], v]) ?_ hd hR
  simp [results, hr, hu, ha, hv, go_sem, d0, d1, d2]
set_option maxHeartbeats 1000000 in
set_option maxRecDepth 100000 in
theorem rs_wrong (w : World) (t : ByteArray) (a m : Int) (s : ByteArray) (e : Int) (he : (e != 0) = true)
    (hS : ∀ W, Calls Tryz.prog 26 #[.string t, .int .i64 a, .int .i64 m, .string s] W fun e' W' => e' = .returned (.tuple #[.string t, .int .i64 e]) ∧ W = W') :
    Calls Tryz.prog 14 #[.string t, .int .i64 a, .int .i64 m, .string s] w fun e' W' => e' = .returned (.tuple #[.string t, .agg #[.int .i64 0, .int .i64 0, .int .i64 0], .int .i64 e]) ∧ Below w.heap.size w W' := by
  have HS := Lib.hid hS
  have HB : Hid (Below w.heap.size w (w.alloc (.cells #[.int .i64 0, .int .i64 0, .int .i64 0] 33))) := Lib.hid ((Below.refl _ _).alloc (Nat.le_refl _) _)
  clear hS
  go_enter Tryz.func14, Tryz.ntmps14
  go_wp2_with fail
  refine (HS.out _).mono ?_
  rintro e' W' ⟨rfl, rfl⟩
  go_wp2_with fail
  exact ch_ret rfl rfl rfl rfl rfl (Row.new _ _ _) ⟨rfl, HB.out⟩

set_option maxHeartbeats 2000000 in
set_option maxRecDepth 100000 in
theorem rs_done (w : World) (t : ByteArray) (a m : Int) (s R : ByteArray) (F G N : Nat) (ha : 0 ≤ a ∧ a ≤ 4010) (hm : 0 ≤ m ∧ m ≤ 4010) (hF : F ≤ 4010) (hGg : G ≤ 4010)
    (hS : ∀ W, Calls Tryz.prog 26 #[.string t, .int .i64 a, .int .i64 m, .string s] W fun e' W' => e' = .returned (.tuple #[.string R, .int .i64 0]) ∧ Below W.heap.size W W')
    (h1 : ∀ W, Calls Tryz.prog 27 #[.string t, .int .i64 a] W fun e' W' => e' = .returned (.int .i64 (F : Int)) ∧ Below W.heap.size W W')
    (h2 : ∀ W, Calls Tryz.prog 27 #[.string t, .int .i64 (a + m)] W fun e' W' => e' = .returned (.int .i64 (G : Int)) ∧ Below W.heap.size W W')
    (h3 : ∀ W, Calls Tryz.prog 12 #[.string s] W fun e' W' => (∃ g c, e' = .returned (.slice g N c)) ∧ Below W.heap.size W W') :
    Calls Tryz.prog 14 #[.string t, .int .i64 a, .int .i64 m, .string s] w fun e' W' => e' = .returned (.tuple #[.string R, .agg #[.int .i64 (F : Int), .int .i64 ((G : Int) - (F : Int) + 1), .int .i64 (N : Int)], .int .i64 0]) ∧ Below w.heap.size w W' := by
  have HS := Lib.hid hS
  have H1 := Lib.hid h1
  have H2 := Lib.hid h2
  have H3 := Lib.hid h3
  obtain ⟨W0, hW0⟩ : ∃ W0, W0 = w.alloc (.cells #[.int .i64 0, .int .i64 0, .int .i64 0] 33) := ⟨_, rfl⟩
  have hb0 : Below w.heap.size w W0 := by rw [hW0]; exact (Below.refl _ _).alloc (Nat.le_refl _) _
  have hr0 : Row W0 w.heap.size 33 #[.int .i64 0, .int .i64 0, .int .i64 0] := by rw [hW0]; exact Row.new _ _ _
  have B0 := Lib.hid hb0
  have R0 := Lib.hid hr0
  have HW := Lib.hid hW0
  clear hS h1 h2 h3 hb0 hr0 hW0
  go_enter Tryz.func14, Tryz.ntmps14
  go_wp2_with fail
  rw [← HW.out]
  refine (HS.out _).mono ?_
  rintro e' w1 ⟨rfl, hb⟩
  have B1 := Lib.hid (B0.out.trans (hb.mono B0.out.size))
  have R1 := Lib.hid (R0.out.below hb R0.out.lt)
  clear hb
  go_wp2_with fail
  refine (H1.out _).mono ?_
  rintro e' w2 ⟨rfl, hb⟩
  have B2 := Lib.hid (B1.out.trans (hb.mono B1.out.size))
  have R2 := Lib.hid (R1.out.below hb R1.out.lt)
  clear hb
  go_wp2_with fail
  refine (H2.out _).mono ?_
  rintro e' w3 ⟨rfl, hb⟩
  have B3 := Lib.hid (B2.out.trans (hb.mono B2.out.size))
  have R3 := Lib.hid (R2.out.below hb R2.out.lt)
  clear hb
  go_wp2_with fail
  refine (H3.out _).mono ?_
  rintro e' w4 ⟨⟨g, c, rfl⟩, hb⟩
  have B4 := Lib.hid (B3.out.trans (hb.mono B3.out.size))
  have r4 := R3.out.below hb R3.out.lt
  have d0 := r4.cell 0
  have d1 := r4.cell 1
  have d2 := r4.cell 2
  have g0 := r4.frozen 0
  have g1 := r4.frozen 1
  have g2 := r4.frozen 2
  simp only [List.getElem?_toArray, List.getElem?_cons_zero, List.getElem?_cons_succ] at d0 d1 d2
  have R4 := Lib.hid r4
  clear hb r4
  go_wp2_with fail
  exact ch_ret rfl rfl rfl rfl rfl (tok_set R4.out _ _ _) ⟨rfl, below_set3 B4.out _ _ _ (Nat.le_refl _) (Nat.le_refl _) (Nat.le_refl _) _ _ _⟩
end Rs
end Go.Proofs.YtdgffpcbpilkcaaGreatDoor

/- What a splice tells: the program and the plain answer tell the same. -/
namespace Go.Proofs.YtdgffpcbpilkcaaGreatDoor
namespace Rs
open Go Go.RowKit

/-- What a splice of T at (a, m) with s tells (F O N E), and the text behind it. -/
def Told (T : List UInt8) (a m : Int) (s : List UInt8) (F O N : Nat) (E : Int) (T' : List UInt8) : Prop :=
  (E = 0 ∧ N = s.count 10 + 1 ∧ ∃ A M : Nat, a = A ∧ m = M ∧ A + M ≤ T.length ∧ T.length - M + s.length ≤ 4000 ∧ T' = splT T A M s ∧ F = frL T A ∧ O = olL T A M) ∨
  ((E = 10 ∧ ¬ okSpan T.length a m ∨ E = 11 ∧ okSpan T.length a m ∧ 4000 < T.length - m.toNat + s.length) ∧ N = 0 ∧ F = 0 ∧ O = 0 ∧ T' = T)
theorem Told.one {T : List UInt8} {a m : Int} {s : List UInt8} {F O N F' O' N' : Nat} {E E' : Int} {R R' : List UInt8} (h : Told T a m s F O N E R) (h' : Told T a m s F' O' N' E' R') : F = F' ∧ O = O' ∧ N = N' ∧ E = E' ∧ R = R' := by
  have no : ∀ {F O N : Nat} {E : Int} {R : List UInt8}, (E = 0 ∧ N = s.count 10 + 1 ∧ ∃ A M : Nat, a = A ∧ m = M ∧ A + M ≤ T.length ∧ T.length - M + s.length ≤ 4000 ∧ R = splT T A M s ∧ F = frL T A ∧ O = olL T A M) →
      ∀ {E' : Int}, (E' = 10 ∧ ¬ okSpan T.length a m ∨ E' = 11 ∧ okSpan T.length a m ∧ 4000 < T.length - m.toNat + s.length) → False := by
    rintro F O N E R ⟨_, _, A, M, rfl, rfl, h1, h2, _⟩ E' (⟨_, h3⟩ | ⟨_, _, h3⟩)
    · exact h3 ⟨by omega, by omega, by omega, by omega⟩
    · rw [Int.toNat_natCast] at h3; omega
  rcases h with h | ⟨h, h1, h2, h3, h4⟩
  · rcases h' with h' | ⟨h', _⟩
    · obtain ⟨rfl, rfl, A, M, hA, hM, _, _, rfl, rfl, rfl⟩ := h
      obtain ⟨rfl, rfl, A', M', hA', hM', _, _, rfl, rfl, rfl⟩ := h'
      obtain rfl : A = A' := by omega
      obtain rfl : M = M' := by omega
      exact ⟨rfl, rfl, rfl, rfl, rfl⟩
    · exact (no h h').elim
  · rcases h' with h' | ⟨h', p1, p2, p3, p4⟩
    · exact (no h' h).elim
    · refine ⟨by omega, by omega, by omega, ?_, by rw [h4, p4]⟩
      rcases h with ⟨e1, q1⟩ | ⟨e1, q1, _⟩ <;> rcases h' with ⟨e2, q2⟩ | ⟨e2, q2, _⟩
      · omega
      · exact (q1 q2).elim
      · exact (q2 q1).elim
      · omega
/-- The program tells it. -/
theorem told_of {W W' : World} {n₀ X b : Nat} {T : List UInt8} {n : Nat} {a m : Int} {s : List UInt8} {F O N : Nat} {E : Int} (h : SpAny W n₀ X b T n a m s F O N E W') :
    ∃ b' T', Lx W' n₀ X b' T' (n + N) ∧ Told T a m s F O N E T' := by
  obtain ⟨b', T', h1, _, _, h2⟩ := h
  refine ⟨b', T', h1, ?_⟩
  rcases h2 with ⟨h2, h3, _, A, M, h4⟩ | ⟨h2, h3, h4, h5, h6, _⟩
  · exact .inl ⟨h2, h3, A, M, h4⟩
  · exact .inr ⟨h2, h3, h4, h5, h6⟩

theorem rlines_count (s : ByteArray) (hs : s.size ≤ 4010) (w : World) :
    Calls Tryz.prog 12 #[.string s] w fun e W' => (∃ g c, e = .returned (.slice g (s.data.toList.count 10 + 1) c)) ∧ Below w.heap.size w W' := by
  refine (rlines w s hs).mono ?_
  rintro e W' ⟨v, rfl, ho, hb⟩
  have hc := starts_count s.data.toList s.size
  rw [Lib.size_eq, List.take_length, ← Lib.size_eq] at hc
  obtain ⟨g, cap, rfl, _⟩ := own_form ho (by omega)
  rw [hc]
  exact ⟨⟨_, _, rfl⟩, hb⟩

/-- The plain answer tells it. -/
theorem rsplice_c (w : World) (T : List UInt8) (hT : T.length ≤ 4000) (a m : Int) (s : ByteArray) (hs : s.size ≤ 4010) :
    Calls Tryz.prog 14 #[.string (bs T), .int .i64 a, .int .i64 m, .string s] w fun e W' => ∃ (F O N : Nat) (E : Int) (T' : List UInt8), e = .returned (.tuple #[.string (bs T'), .agg #[.int .i64 (F : Int), .int .i64 (O : Int), .int .i64 (N : Int)], .int .i64 E]) ∧ Told T a m s.data.toList F O N E T' ∧ Below w.heap.size w W' := by
  have hsz : (bs T).size = T.length := bs_size T
  have hdt : (bs T).data.toList = T := rfl
  by_cases h1 : okSpan T.length a m
  · obtain ⟨p1, p2, p3, p4⟩ := h1
    obtain ⟨A, rfl⟩ : ∃ A : Nat, a = A := ⟨a.toNat, by omega⟩
    obtain ⟨M, rfl⟩ : ∃ A : Nat, m = A := ⟨m.toNat, by omega⟩
    have hAM : A + M ≤ T.length := by omega
    by_cases h2 : T.length - M + s.data.toList.length ≤ 4000
    · have hc1 : ∀ W, Calls Tryz.prog 27 #[.string (bs T), .int .i64 (A : Int)] W fun e' W' => e' = .returned (.int .i64 (frL T A : Int)) ∧ Below W.heap.size W W' := fun W => by
        have := in_c W (bs T) (by omega) A (by omega)
        rwa [hdt, ← frL_count T A (by omega)] at this
      have hc2 : ∀ W, Calls Tryz.prog 27 #[.string (bs T), .int .i64 ((A : Int) + (M : Int))] W fun e' W' => e' = .returned (.int .i64 (frL T (A + M) : Int)) ∧ Below W.heap.size W W' := fun W => by
        have := in_c W (bs T) (by omega) (A + M) (by omega)
        rwa [hdt, ← frL_count T (A + M) (by omega), show ((A + M : Nat) : Int) = (A : Int) + (M : Int) by omega] at this
      have hsp : ∀ W, Calls Tryz.prog 26 #[.string (bs T), .int .i64 (A : Int), .int .i64 (M : Int), .string s] W fun e' W' => e' = .returned (.tuple #[.string (bs (splT T A M s.data.toList)), .int .i64 0]) ∧ Below W.heap.size W W' := fun W => by
        have h := rsplice_ok W (bs T) A M (A + M) s (by omega) (by omega) (by omega) (by omega) hs (by rw [hsz, Lib.size_eq]; exact h2)
        have e1 : (bs T).extract 0 A ++ s ++ (bs T).extract (A + M) (bs T).size = bs (splT T A M s.data.toList) := by
          apply ByteArray.ext
          apply Array.ext'
          simp only [ByteArray.data_append, Array.toList_append, ByteArray.data_extract, Array.toList_extract, List.extract, List.drop_zero, Nat.sub_zero]
          rw [hdt, hsz, List.take_of_length_le (i := T.length - (A + M)) (l := List.drop (A + M) T) (by rw [List.length_drop]; omega)]
          rfl
        rwa [e1] at h
      have hm := frL_mono T (show A ≤ A + M by omega) hAM
      have hb1 : frL T A ≤ 4010 := by have := frL_count T A (by omega); have : (T.take A).count 10 ≤ (T.take A).length := List.count_le_length; rw [List.length_take] at this; omega
      have hb2 : frL T (A + M) ≤ 4010 := by have := frL_count T (A + M) hAM; have : (T.take (A + M)).count 10 ≤ (T.take (A + M)).length := List.count_le_length; rw [List.length_take] at this; omega
      refine (rs_done w (bs T) A M s _ (frL T A) (frL T (A + M)) (s.data.toList.count 10 + 1) ⟨by omega, by omega⟩ ⟨by omega, by omega⟩ hb1 hb2 hsp hc1 hc2 (fun W => rlines_count s hs W)).mono ?_
      rintro e W' ⟨rfl, hb⟩
      refine ⟨frL T A, olL T A M, s.data.toList.count 10 + 1, 0, _, ?_, .inl ⟨rfl, rfl, A, M, rfl, rfl, hAM, h2, rfl, rfl, rfl⟩, hb⟩
      rw [show ((olL T A M : Nat) : Int) = (frL T (A + M) : Int) - (frL T A : Int) + 1 by unfold olL; omega]
    · refine (rs_wrong w (bs T) A M s 11 rfl (fun W => rsplice_full W (bs T) A M s (by omega) (by omega) hs (by rw [hsz, Lib.size_eq]; omega))).mono ?_
      rintro e W' ⟨rfl, hb⟩
      exact ⟨0, 0, 0, 11, T, rfl, .inr ⟨.inr ⟨rfl, ⟨p1, p2, p3, p4⟩, by rw [Int.toNat_natCast]; omega⟩, rfl, rfl, rfl, rfl⟩, hb⟩
  · refine (rs_wrong w (bs T) a m s 10 rfl (fun W => rsplice_range W (bs T) a m s (by omega) (by rw [hsz]; exact h1))).mono ?_
    rintro e W' ⟨rfl, hb⟩
    exact ⟨0, 0, 0, 10, T, rfl, .inr ⟨.inl ⟨rfl, h1⟩, rfl, rfl, rfl, rfl⟩, hb⟩
end Rs
end Go.Proofs.YtdgffpcbpilkcaaGreatDoor
