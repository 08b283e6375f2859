/- The plain tokens of a text: its lines', with a line end between two. -/
import Derived.Test.YtdgffpcbpilkcaaGreatDoorRsB
import Derived.Test.YtdgffpcbpilkcaaGreatDoorRsLine
import Derived.Test.YtdgffpcbpilkcaaGreatDoorRsDec
import Derived.Laws.AppendOwn
import Derived.Laws.AppendOwnNone
namespace Go.Proofs.YtdgffpcbpilkcaaGreatDoor
namespace Rs
open Go Go.RowKit Go.Shelf

theorem starts_pos (T : List UInt8) : ∀ k, ∃ r, starts T k = 0 :: r
  | 0 => ⟨[], rfl⟩
  | k + 1 => by
    obtain ⟨r, h⟩ := starts_pos T k
    unfold starts
    split
    · exact ⟨r ++ [k + 1], by rw [h]; rfl⟩
    · exact ⟨r, h⟩
theorem starts_cons (c : UInt8) (T : List UInt8) : ∀ k, starts (c :: T) (k + 1) = 0 :: (if c = 10 then starts T k else (starts T k).drop 1).map (· + 1)
  | 0 => by
    show (if (c :: T)[0]? = some 10 then [0] ++ [1] else [0]) = 0 :: (if c = 10 then [0] else List.drop 1 [0]).map (· + 1)
    by_cases h : c = 10 <;> simp [h]
  | k + 1 => by
    have ih := starts_cons c T k
    have e1 : starts (c :: T) (k + 1 + 1) = if (c :: T)[k + 1]? = some 10 then starts (c :: T) (k + 1) ++ [k + 1 + 1] else starts (c :: T) (k + 1) := rfl
    have e2 : starts T (k + 1) = if T[k]? = some 10 then starts T k ++ [k + 1] else starts T k := rfl
    obtain ⟨r, hr⟩ := starts_pos T k
    rw [e1, e2, List.getElem?_cons_succ, ih, hr]
    by_cases h : T[k]? = some 10 <;> by_cases h2 : c = 10 <;> simp [h, h2]
/-- Where a line begins, and where it ends, in the list of lines. -/
theorem line_at : ∀ (T : List UInt8) (j : Nat) (y : List UInt8), (splitL T)[j]? = some y →
    j < (starts T T.length).length ∧ lineEnd T j ≤ T.length ∧ lineAt T j ≤ lineEnd T j ∧ (T.take (lineEnd T j)).drop (lineAt T j) = y
  | [], j, y, h => by
    have hj : j = 0 := by
      have := (List.getElem?_eq_some_iff.1 h).1
      simp [splitL] at this; omega
    subst hj
    simp [splitL] at h
    subst h
    simp [lineEnd, lineAt, starts]
  | c :: T, j, y, h => by
    have ih := line_at T
    obtain ⟨r, hr⟩ := starts_pos T T.length
    have hc := starts_cons c T T.length
    have hup := starts_up T T.length
    have hA : ∀ i, lineAt T (i + 1) = (starts T T.length).getD (i + 1) 0 := fun _ => rfl
    have hpos : ∀ i, i + 1 < (starts T T.length).length → 1 ≤ lineAt T (i + 1) := fun i hi => by
      have := hup 0 (i + 1) (by omega) hi
      unfold lineAt; omega
    by_cases h10 : c = 10
    · rw [if_pos h10] at hc
      have hat : ∀ i, i < (starts T T.length).length → lineAt (c :: T) (i + 1) = lineAt T i + 1 := fun i hi => by
        unfold lineAt
        rw [List.length_cons, hc]
        simp only [List.getD_eq_getElem?_getD, List.getElem?_cons_succ, List.getElem?_map, List.getElem?_eq_getElem hi]
        rfl
      have h0 : lineAt (c :: T) 0 = 0 := by unfold lineAt; rw [List.length_cons, hc]; rfl
      have hl : (starts (c :: T) (c :: T).length).length = (starts T T.length).length + 1 := by rw [List.length_cons, hc]; simp
      have hT0 : lineAt T 0 = 0 := by unfold lineAt; rw [hr]; rfl
      have hlen : 0 < (starts T T.length).length := by rw [hr]; simp
      cases j with
      | zero =>
        have hy : y = [] := by unfold splitL at h; rw [if_pos h10] at h; simpa using h.symm
        subst hy
        have he : lineEnd (c :: T) 0 = 0 := by
          unfold lineEnd
          rw [hl, if_pos (by omega), hat 0 hlen, hT0]
        rw [he, h0]
        exact ⟨by omega, Nat.zero_le _, Nat.le_refl _, by simp⟩
      | succ j =>
        have h' : (splitL T)[j]? = some y := by unfold splitL at h; rw [if_pos h10] at h; simpa using h
        obtain ⟨i1, i2, i3, i4⟩ := ih j y h'
        have he : lineEnd (c :: T) (j + 1) = lineEnd T j + 1 := by
          unfold lineEnd
          rw [hl]
          by_cases hn : j + 1 < (starts T T.length).length
          · rw [if_pos (by omega), if_pos hn, hat (j + 1) hn]
            have := hpos j hn
            omega
          · rw [if_neg (by omega), if_neg hn]
            rfl
        rw [he, hat j i1]
        refine ⟨by omega, by simp; exact i2, by omega, ?_⟩
        rw [List.take_succ_cons, List.drop_succ_cons]
        exact i4
    · rw [if_neg h10] at hc
      have hat : ∀ i, i + 1 < (starts T T.length).length → lineAt (c :: T) (i + 1) = lineAt T (i + 1) + 1 := fun i hi => by
        unfold lineAt
        rw [List.length_cons, hc]
        simp only [List.getD_eq_getElem?_getD, List.getElem?_cons_succ, List.getElem?_map, List.getElem?_drop, List.getElem?_eq_getElem hi]
        rw [Nat.add_comm 1 i, List.getElem?_eq_getElem hi]
        rfl
      have h0 : lineAt (c :: T) 0 = 0 := by unfold lineAt; rw [List.length_cons, hc]; rfl
      have hT0 : lineAt T 0 = 0 := by unfold lineAt; rw [hr]; rfl
      have hlen : 0 < (starts T T.length).length := by rw [hr]; simp
      have hl : (starts (c :: T) (c :: T).length).length = (starts T T.length).length := by rw [List.length_cons, hc]; simp; omega
      have he : ∀ i, lineEnd (c :: T) i = lineEnd T i + 1 := fun i => by
        unfold lineEnd
        rw [hl]
        by_cases hn : i + 1 < (starts T T.length).length
        · rw [if_pos hn, if_pos hn, hat i hn]
          have := hpos i hn
          omega
        · rw [if_neg hn, if_neg hn]
          rfl
      obtain ⟨x, l, hx⟩ := splitL_cons T
      cases j with
      | zero =>
        have hy : y = c :: x := by unfold splitL at h; rw [if_neg h10, hx] at h; simpa using h.symm
        subst hy
        obtain ⟨i1, i2, i3, i4⟩ := ih 0 x (by rw [hx]; rfl)
        rw [hT0] at i4
        rw [he, h0]
        refine ⟨by omega, by simp; exact i2, Nat.zero_le _, ?_⟩
        rw [List.take_succ_cons, List.drop_zero]
        rw [List.drop_zero] at i4
        rw [i4]
      | succ j =>
        have h' : (splitL T)[j + 1]? = some y := by unfold splitL at h; rw [if_neg h10, hx] at h; rw [hx]; simpa using h
        obtain ⟨i1, i2, i3, i4⟩ := ih (j + 1) y h'
        rw [he, hat j i1]
        refine ⟨by omega, by simp; exact i2, by omega, ?_⟩
        rw [List.take_succ_cons, List.drop_succ_cons]
        exact i4
theorem starts_cnt (T : List UInt8) : (starts T T.length).length = (splitL T).length := by
  rw [splitL_len, starts_count, List.take_length]
theorem line_len {T : List UInt8} {j : Nat} {y : List UInt8} (h : (splitL T)[j]? = some y) : y.length ≤ T.length := by
  obtain ⟨_, h2, h3, h4⟩ := line_at T j y h
  rw [← h4, List.length_drop, List.length_take]
  omega
/-- The plain line, of the list of lines. -/
theorem rline_in (w : World) (T : List UInt8) (hT : T.length ≤ 4010) (j : Nat) (y : List UInt8) (h : (splitL T)[j]? = some y) :
    Calls Tryz.prog 19 #[.string (bs T), .int .i64 (j : Int)] w fun e W' => e = .returned (.tuple #[.string (bs y), .int .i64 0]) ∧ Below w.heap.size w W' := by
  obtain ⟨h1, h2, h3, h4⟩ := line_at T j y h
  have hd : (bs T).data.toList = T := rfl
  have hs : (bs T).size = T.length := bs_size T
  have := rline_ok w (bs T) j (by rw [hs]; exact hT) (by rw [hd, hs]; exact h1)
  rw [hd, Rs.ext_mid, h4] at this
  exact this
theorem rline_out (w : World) (T : List UInt8) (hT : T.length ≤ 4010) (i : Int) (h : ¬ (0 ≤ i ∧ i < ((splitL T).length : Int))) :
    Calls Tryz.prog 19 #[.string (bs T), .int .i64 i] w fun e W' => e = .returned (.tuple #[.string ⟨#[]⟩, .int .i64 20]) ∧ Below w.heap.size w W' := by
  have hd : (bs T).data.toList = T := rfl
  have hs : (bs T).size = T.length := bs_size T
  refine rline_no w (bs T) i (by rw [hs]; exact hT) ?_
  rw [hd, hs, starts_cnt]
  omega
theorem rlines_n (w : World) (T : List UInt8) (hT : T.length ≤ 4010) :
    Calls Tryz.prog 12 #[.string (bs T)] w fun e W' => (∃ g c, e = .returned (.slice g (splitL T).length c)) ∧ Below w.heap.size w W' := by
  have hd : (bs T).data.toList = T := rfl
  have hs : (bs T).size = T.length := bs_size T
  have := rlines_count (bs T) (by rw [hs]; exact hT) w
  rw [hd, ← splitL_len] at this
  exact this
theorem rline_toks (w : World) (y : List UInt8) (hy : y.length ≤ 10000) :
    Calls Tryz.prog 22 #[.string (bs y)] w fun e W' => ∃ v, e = .returned v ∧ Go.Proofs.YtdgffpcbpilkcaaGreatDoor.OwnL W' w.heap.size v (toks st y 0) ∧ Below w.heap.size w W' := by
  have := rline_c y hy w
  rw [sp_st] at this
  exact this

set_option maxRecDepth 100000 in
set_option maxHeartbeats 4000000 in
/-- Tokens(s). -/
theorem rtokens_c (w : World) (T : List UInt8) (hT : T.length ≤ 4010) :
    Calls Tryz.prog 24 #[.string (bs T)] w fun e W' => ∃ v, e = .returned v ∧ Go.Proofs.YtdgffpcbpilkcaaGreatDoor.OwnL W' w.heap.size v (tokT T) ∧ Below w.heap.size w W' := by
  obtain ⟨i0, hi, hz0, hz1, hz2⟩ := Go.Proofs.YtdgffpcbpilkcaaGreatDoor.info_tok
  have hle : ∀ k, (toksJ ((splitL T).take k)).length ≤ 4011 := fun k => by
    have h1 := toksJ_len ((splitL T).take k)
    have h2 := begL_all (splitL T) (splitL_ne T)
    rw [join_split] at h2
    unfold begL at h2
    rw [List.take_length] at h2
    rw [List.map_take] at h1
    have h3 := sum_take_le ((splitL T).map fun x => x.length + 1) k
    omega
  have HLE := Lib.hid hle
  have HLI := Lib.hid (fun W j y h => rline_in W T hT j y h)
  have HTK := Lib.hid (fun W j y (h : (splitL T)[j]? = some y) => rline_toks W y (by have := line_len h; omega))
  have HNS := Lib.hid (rlines_n w T hT)
  obtain ⟨N, hN⟩ : ∃ N, N = (splitL T).length := ⟨_, rfl⟩
  have hN1 : N ≤ 4011 := by
    have : T.count 10 ≤ T.length := List.count_le_length
    rw [hN, splitL_len]; omega
  rw [← hN] at HNS
  obtain ⟨s, hs⟩ : ∃ s, s = bs T := ⟨_, rfl⟩
  rw [← hs] at HNS HLI ⊢
  have HN := Lib.hid hN
  obtain ⟨h6, hh6⟩ : ∃ h, h = w.heap.size := ⟨_, rfl⟩
  have H6 := Lib.hid hh6
  rw [← hh6]
  clear hle hN hs hT hh6
  go_enter Tryz.func24, Tryz.ntmps24
  go_wp2_with fail
  refine HNS.out.mono ?_
  rintro e w0 ⟨⟨g0, c0, rfl⟩, hb0⟩
  have HB0 := Lib.hid hb0
  clear hb0
  have HBA : Hid (Below h6 w w0 ∧ h6 ≤ w.heap.size) := Lib.hid ⟨by rw [H6.out]; exact HB0.out, by rw [H6.out]; exact Nat.le_refl _⟩
  go_wp2
  go_loopw [3, 5, 6, 7] (fun v i _ _ wr => ∃ (k : Nat), k ≤ N ∧ i = .int .i64 k ∧ Below h6 w wr ∧ Go.Proofs.YtdgffpcbpilkcaaGreatDoor.OwnL wr h6 v (toksJ ((splitL T).take k)))
    (fun _ i _ _ _ => N - (intOf i).toNat)
  case atStart => exact ⟨0, Nat.zero_le _, rfl, HBA.out.1, World.ownsRow_nil _ _ _ _⟩
  case round =>
    obtain ⟨j, hj, rfl, hb1, hown⟩ := hrel
    have HB := Lib.hid hb1
    have HO := Lib.hid hown
    obtain ⟨a9, l9, c9, hv9⟩ := own_sl hown
    by_cases hlt2 : j < N
    · have hx : ∃ y, (splitL T)[j]? = some y := ⟨_, List.getElem?_eq_getElem (by rw [← HN.out]; exact hlt2)⟩
      obtain ⟨y, hy⟩ := hx
      obtain ⟨L, hL⟩ : ∃ L, L = toks st y 0 := ⟨_, rfl⟩
      obtain ⟨U, hU⟩ : ∃ U, U = bs y := ⟨_, rfl⟩
      have hli := fun W => HLI.out W j y hy
      have htk := fun W => HTK.out W j y hy
      rw [← hU] at hli htk
      rw [← hL] at htk
      have HLJ := Lib.hid hli
      have HTJ := Lib.hid htk
      have HP : Hid (toksJ ((splitL T).take (j + 1)) = if j = 0 then L else (toksJ ((splitL T).take j) ++ [endTk]) ++ L) := Lib.hid (by
        rw [List.take_add_one, hy]
        by_cases h0 : j = 0
        · subst h0
          rw [if_pos rfl, hL]
          simp [toksJ]
        · rw [if_neg h0, show (some y).toList = [y] from rfl, toksJ_snoc _ _ (fun e => by
            have h9 : ((splitL T).take j).length = 0 := by rw [e]; rfl
            rw [List.length_take, ← HN.out] at h9
            omega), hL]
          simp)
      have hl1 := HLE.out (j + 1)
      rw [HP.out] at hl1
      have HL1 := Lib.hid hl1
      have HBS : Hid (h6 ≤ wr.heap.size) := Lib.hid (Nat.le_trans HBA.out.2 hb1.size)
      clear hb1 hown hy hL hU hl1 hli htk
      subst hv9
      by_cases h0 : j = 0
      · subst h0
        rw [if_pos rfl] at HP HL1
        have hP0 : toksJ ((splitL T).take 0) = [] := rfl
        have HLI0 := Lib.hid (HLJ.out wr)
        go_wp2_with fail
        refine HLI0.out.mono ?_
        rintro e w7 ⟨rfl, hb7⟩
        have HB7 := Lib.hid (HB.out.trans (hb7.mono HBS.out))
        have HO7 := Lib.hid (ownsRow_keep HO.out (fun k hk => hb7.block k (ownsRow_lt HO.out hk)))
        have HBS7 : Hid (h6 ≤ w7.heap.size) := Lib.hid (Nat.le_trans HBS.out hb7.size)
        clear hb7
        go_wp2_with fail
        refine (HTJ.out w7).mono ?_
        rintro e w8 ⟨v8, rfl, ho8, hb8⟩
        obtain ⟨a8, l8, c8, rfl⟩ := own_sl ho8
        have HB8 := Lib.hid (HB7.out.trans (hb8.mono HBS7.out))
        have HO8 := Lib.hid (ownsRow_keep HO7.out (fun k hk => hb8.block k (ownsRow_lt HO7.out hk)))
        have HBS8 : Hid (h6 ≤ w8.heap.size) := Lib.hid (Nat.le_trans HBS7.out hb8.size)
        have hat := toked_at ho8
        clear ho8 hb8
        rcases hat with ⟨rfl, rfl, rfl, hLn⟩ | ⟨g, rfl, rfl, hg, hcs⟩
        · have HLn := Lib.hid hLn
          clear hLn
          go_wp2_with (at_builtin; refine wpList_append_own_none rfl (.tmp 28) (.tmp 30) 44 rfl h6 55 i0 3 Tryz.underlying44 hi (.slice a9 l9 c9) _ (Go.Proofs.YtdgffpcbpilkcaaGreatDoor.cellsL (toksJ ((splitL T).take 0))) rfl HO8.out rfl ?_)
          go_roundw
          case rel => exact ⟨0 + 1, by omega, by simp, HB8.out, by rw [HP.out, HLn.out]; exact HO8.out⟩
          case measure => simp [intOf]; omega
        · have HCS := Lib.hid hcs
          clear hcs
          go_wp2_with (at_builtin; refine wpList_append_own _ rfl (.tmp 28) (.tmp 30) 44 rfl h6 55 i0 (.agg #[.int .i64 0, .string ⟨#[]⟩, .string ⟨#[]⟩]) 3 40 Tryz.underlying44 hi hz0 hz1 hz2 rfl (by decide) (.slice a9 l9 c9) _ (Go.Proofs.YtdgffpcbpilkcaaGreatDoor.cellsL (toksJ ((splitL T).take 0))) rfl HO8.out ⟨g, 0, none⟩ L.length c8 (Go.Proofs.YtdgffpcbpilkcaaGreatDoor.cellsL L) rfl (Go.Proofs.YtdgffpcbpilkcaaGreatDoor.cellsL_len L) HCS.out (cellsL_one L) (by have := HL1.out; rw [hP0]; unfold maxLen; simp; omega) (by have := HL1.out; rw [hP0]; simp; omega) HBS8.out ?_; intro v2 w2 ho2 hg2 _; have HO3 := Lib.hid ho2; have HG3 := Lib.hid hg2; clear ho2 hg2)
          go_roundw
          case rel =>
            refine ⟨0 + 1, by omega, by simp, HB8.out.grown HG3.out HBS8.out (fun j ej => (HO8.out.lt j ej).1), ?_⟩
            rw [HP.out]
            have h9 := HO3.out
            rw [hP0] at h9
            have e9 : ([] : List Tk).length + L.length = L.length := by simp
            rw [e9] at h9
            exact h9
          case measure => simp [intOf]; omega
      · rw [if_neg h0] at HP HL1
        have hz3 : (0 : Int) < (j : Int) := by omega
        have hL2 := HL1.out
        rw [List.length_append, List.length_append, List.length_singleton] at hL2
        have HL2 := Lib.hid hL2
        clear hL2
        go_wp2_with fail
        refine (HLJ.out wr).mono ?_
        rintro e w7 ⟨rfl, hb7⟩
        have HB7 := Lib.hid (HB.out.trans (hb7.mono HBS.out))
        have HO7 := Lib.hid (ownsRow_keep HO.out (fun k hk => hb7.block k (ownsRow_lt HO.out hk)))
        have HBS7 : Hid (h6 ≤ w7.heap.size) := Lib.hid (Nat.le_trans HBS.out hb7.size)
        clear hb7
        have HO2 := Lib.hid (HO7.out.alloc (.cells #[.int .i64 11, .string ⟨#[10]⟩, .string ⟨#[]⟩] 55))
        have HNW : Hid (∀ (j : Nat) (u : Value), [Value.int .i64 11, .string ⟨#[10]⟩, .string ⟨#[]⟩][j]? = some u → (w7.alloc (.cells #[.int .i64 11, .string ⟨#[10]⟩, .string ⟨#[]⟩] 55)).cell? ((⟨w7.heap.size, 0, none⟩ : Addr).add j) = some u) := Lib.hid (World.news_of_block (World.alloc_heap_new w7 (.cells #[.int .i64 11, .string ⟨#[10]⟩, .string ⟨#[]⟩] 55)))
        have HON1 : Hid (∀ u ∈ [Value.int .i64 11, .string ⟨#[10]⟩, .string ⟨#[]⟩], u.oneCell' = true) := Lib.hid (by intro u hu; simp at hu; rcases hu with rfl | rfl | rfl <;> rfl)
        have HLA : Hid (((toksJ ((splitL T).take j)).length + 1 ≤ maxLen ∧ ((toksJ ((splitL T).take j)).length + 1) * 40 ≤ 140737488355328) ∧ ((toksJ ((splitL T).take j)).length + 1 + L.length ≤ maxLen ∧ ((toksJ ((splitL T).take j)).length + 1 + L.length) * 40 ≤ 140737488355328)) := Lib.hid (by have := HL2.out; exact ⟨⟨by unfold maxLen; omega, by omega⟩, ⟨by unfold maxLen; omega, by omega⟩⟩)
        have HB2 : Hid (Below h6 w (w7.alloc (.cells #[.int .i64 11, .string ⟨#[10]⟩, .string ⟨#[]⟩] 55))) := Lib.hid (HB7.out.alloc HBS7.out _)
        have HB2S : Hid (h6 ≤ (w7.alloc (.cells #[.int .i64 11, .string ⟨#[10]⟩, .string ⟨#[]⟩] 55)).heap.size) := Lib.hid (by rw [World.size_alloc]; have := HBS7.out; omega)
        go_wp2_with (at_builtin; refine wpList_append_own _ rfl (.tmp 24) (.tmp 26) 44 rfl h6 55 i0 (.agg #[.int .i64 0, .string ⟨#[]⟩, .string ⟨#[]⟩]) 3 40 Tryz.underlying44 hi hz0 hz1 hz2 rfl (by decide) (.slice a9 l9 c9) _ (Go.Proofs.YtdgffpcbpilkcaaGreatDoor.cellsL (toksJ ((splitL T).take j))) rfl HO2.out ⟨w7.heap.size, 0, none⟩ 1 1 [.int .i64 11, .string ⟨#[10]⟩, .string ⟨#[]⟩] rfl rfl HNW.out HON1.out HLA.out.1.1 HLA.out.1.2 HB2S.out ?_)
        intro v1 w1' ho1 hg1 _
        obtain ⟨a1, l1, c1', rfl⟩ := own_sl ho1
        have HO1 := Lib.hid ho1
        have HB3 : Hid (Below h6 w w1') := Lib.hid (HB2.out.grown hg1 HB2S.out (fun j ej => (HO2.out.lt j ej).1))
        have HB3S : Hid (h6 ≤ w1'.heap.size) := Lib.hid (Nat.le_trans HB2S.out hg1.size)
        clear ho1 hg1
        go_wp2_with fail
        refine (HTJ.out w1').mono ?_
        rintro e w8 ⟨v8, rfl, ho8, hb8⟩
        obtain ⟨a8, l8, c8, rfl⟩ := own_sl ho8
        have HB8 := Lib.hid (HB3.out.trans (hb8.mono HB3S.out))
        have HO8 := Lib.hid (ownsRow_keep HO1.out (fun k hk => hb8.block k (ownsRow_lt HO1.out hk)))
        have HBS8 : Hid (h6 ≤ w8.heap.size) := Lib.hid (Nat.le_trans HB3S.out hb8.size)
        have hat := toked_at ho8
        clear ho8 hb8
        rcases hat with ⟨rfl, rfl, rfl, hLn⟩ | ⟨g, rfl, rfl, hg, hcs⟩
        · have HLn := Lib.hid hLn
          clear hLn
          go_wp2_with (at_builtin; refine wpList_append_own_none rfl (.tmp 28) (.tmp 30) 44 rfl h6 55 i0 3 Tryz.underlying44 hi (.slice a1 l1 c1') _ _ rfl HO8.out rfl ?_)
          go_roundw
          case rel =>
            refine ⟨j + 1, by omega, by simp, HB8.out, ?_⟩
            rw [HP.out, HLn.out, List.append_nil]
            show w8.ownsRow _ _ 3 _ (toksJ ((splitL T).take j) ++ [endTk]).length (Go.Proofs.YtdgffpcbpilkcaaGreatDoor.cellsL (toksJ ((splitL T).take j) ++ [endTk]))
            rw [List.length_append, cellsL_app, cellsL_end]
            exact HO8.out
          case measure => simp [intOf]; omega
        · have HCS := Lib.hid hcs
          clear hcs
          go_wp2_with (at_builtin; refine wpList_append_own _ rfl (.tmp 28) (.tmp 30) 44 rfl h6 55 i0 (.agg #[.int .i64 0, .string ⟨#[]⟩, .string ⟨#[]⟩]) 3 40 Tryz.underlying44 hi hz0 hz1 hz2 rfl (by decide) (.slice a1 l1 c1') _ _ rfl HO8.out ⟨g, 0, none⟩ L.length c8 (Go.Proofs.YtdgffpcbpilkcaaGreatDoor.cellsL L) rfl (Go.Proofs.YtdgffpcbpilkcaaGreatDoor.cellsL_len L) HCS.out (cellsL_one L) HLA.out.2.1 HLA.out.2.2 HBS8.out ?_; intro v2 w2 ho2 hg2 _; have HO3 := Lib.hid ho2; have HG3 := Lib.hid hg2; clear ho2 hg2)
          go_roundw
          case rel =>
            refine ⟨j + 1, by omega, by simp, HB8.out.grown HG3.out HBS8.out (fun j ej => (HO8.out.lt j ej).1), ?_⟩
            rw [HP.out]
            show w2.ownsRow _ _ 3 v2 (toksJ ((splitL T).take j) ++ [endTk] ++ L).length (Go.Proofs.YtdgffpcbpilkcaaGreatDoor.cellsL (toksJ ((splitL T).take j) ++ [endTk] ++ L))
            rw [List.length_append, List.length_append, cellsL_app, cellsL_app, cellsL_end]
            exact HO3.out
          case measure => simp [intOf]; omega
    · subst hv9
      obtain rfl : j = N := by omega
      have hfull : toksJ ((splitL T).take j) = tokT T := by unfold tokT; rw [HN.out, List.take_length]
      rw [hfull] at HO
      clear hfull hb1 hown
      go_wp2_with fail
      go_ret
      exact ⟨_, rfl, HO.out, HB.out⟩
end Rs
end Go.Proofs.YtdgffpcbpilkcaaGreatDoor
