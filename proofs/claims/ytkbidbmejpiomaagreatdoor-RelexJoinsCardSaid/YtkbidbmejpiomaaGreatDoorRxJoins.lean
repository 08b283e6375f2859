/- The statement RelexJoins, as a call. -/
import Derived.Test.YtkbidbmejpiomaaGreatDoorRyF
import Derived.Laws.AppendOwn
import Derived.Laws.AppendOwnNone
import Derived.Deep.AppendLies
namespace Go.Proofs.YtkbidbmejpiomaaGreatDoor
open Go Go.RowKit Go.Shelf
attribute [local go_sem] Oper.semAt_some

set_option maxRecDepth 100000 in
set_option maxHeartbeats 4000000 in
theorem joins_full (w : World) (hG : RG w.heap.size w) (x : ByteArray) (v : Value) (h : 4000 < (cut x).size) :
    Calls Tryz.prog 8 #[.string x, v] w fun e W' => e = .returned (.bool true) ∧ Below w.heap.size w W' := by
  have HSH := Lib.hid (shown_c w hG)
  have HNF := Lib.hid (fun W1 (hb : Below w.heap.size w W1) => new_full W1 (hG.below hb (Nat.le_refl _)).here (cut x) h)
  clear hG h
  go_enter Tryz.func8, Tryz.ntmps8
  go_wp2_with fail
  refine HSH.out.mono ?_
  rintro e w1 ⟨rfl, hb1⟩
  have B1 := Lib.hid hb1
  clear hb1
  go_wp2_with fail
  refine (cut_any _ x).mono ?_
  rintro e w2 ⟨rfl, rfl⟩
  go_wp2_with fail
  refine (HNF.out _ B1.out).mono ?_
  rintro e w2 ⟨rfl, hb2⟩
  have B2 := Lib.hid (B1.out.trans (hb2.mono B1.out.size))
  clear hb2
  go_wp2_with fail
  go_ret
  exact ⟨rfl, B2.out⟩

set_option maxRecDepth 100000 in
set_option maxHeartbeats 8000000 in
theorem joins_ok (w : World) (hG : RG w.heap.size w) (x : ByteArray) (v : Value) (A : Nat → Int × Int × ByteArray) (len : Nat) (hA : ActsIn 0 w.heap.size w v A len) (h : (cut x).size ≤ 4000) :
    Calls Tryz.prog 8 #[.string x, v] w fun e W' => e = .returned (.bool true) ∧ Below w.heap.size w W' := by
  have HSH := Lib.hid (shown_c w hG)
  have HG := Lib.hid hG
  have HA := Lib.hid hA
  have hnw := fun W1 (hb : Below w.heap.size w W1) => new_ok W1 (hG.below hb (Nat.le_refl _)).here (cut x).data.toList (by rw [← Lib.size_eq]; exact h)
  rw [bs_of] at hnw
  have HNW := Lib.hid hnw
  clear hG hA hnw
  go_enter Tryz.func8, Tryz.ntmps8
  go_wp2_with fail
  refine HSH.out.mono ?_
  rintro e w1 ⟨rfl, hb1⟩
  have B1 := Lib.hid hb1
  clear hb1
  go_wp2_with fail
  refine (cut_any _ x).mono ?_
  rintro e w2 ⟨rfl, rfl⟩
  go_wp2_with fail
  refine (HNW.out _ B1.out).mono ?_
  rintro e w4 ⟨X, b, rfl, hl4, hb4⟩
  have B4 := Lib.hid (B1.out.trans (hb4.mono B1.out.size))
  have L4 := Lib.hid (hl4.mono (base' := w.heap.size) B1.out.size)
  clear hl4 hb4
  go_wp2_with fail
  refine (few_any _ v A len 20 (by omega) ((HA.out.below B4.out (Nat.le_refl _)).wider B4.out.size)).mono ?_
  rintro e w5 ⟨v5, rfl, hA5, hb5⟩
  obtain ⟨m5, hm5⟩ : ∃ m5, m5 = min len 20 := ⟨_, rfl⟩
  have hm5' : m5 ≤ 20 := by omega
  rw [← hm5] at hA5
  have hs45 := hb5.size
  have HI5 : Hid (RInv w w4.heap.size w5.heap.size X v5 (cutA A) m5 0 w5 b (cut x).data.toList ((cut x).data.toList.count 10 + 1)) := Lib.hid ⟨L4.out.below hb5, by have h8 : (cut x).data.toList.count 10 ≤ (cut x).data.toList.length := List.count_le_length; have h9 := L4.out.small; omega, B4.out.trans (hb5.mono B4.out.size), Nat.le_refl _, hA5, L4.out.ltX, .inl L4.out.ltb.1⟩
  obtain ⟨a5, c5, rfl, hlen5, _⟩ := hA5
  unfold maxLen at hlen5
  clear hm5 hb5 HA L4 B4 B1
  go_wp2
  go_loopw [8] (fun i wr => ∃ (k : Nat), k ≤ m5 ∧ i = .int .i64 k ∧ ∃ b T n, RInv w w4.heap.size w5.heap.size X (.slice a5 m5 c5) (cutA A) m5 k wr b T n)
    (fun i _ => m5 - (intOf i).toNat)
  case atStart => exact ⟨0, Nat.zero_le _, rfl, _, _, _, HI5.out⟩
  case round =>
    obtain ⟨k, hk, rfl, b6, T6, n6, hI⟩ := hrel
    have HI := Lib.hid hI
    by_cases hlt : k < m5
    · obtain ⟨a6, c6, e6, _, hcs⟩ := hI.2.2.2.2.1
      cases e6
      obtain ⟨q, off, rfl, hblo, hbhi, hcc⟩ := hcs (by omega)
      obtain ⟨e1, e2, e3⟩ := hcc k hlt
      have hn6 : n6 ≤ 1000000 := by have h8 := hI.2.1; have h9 : (k + 1) * 5000 ≤ 21 * 5000 := Nat.mul_le_mul_right _ (by omega); omega
      have hIa := hI.still (Below.refl wr.heap.size wr).drew
      have HSP := Lib.hid (splice_any w.heap.size wr.drew (hIa.rg HG.out) X b6 T6 n6 hn6 hIa.1 (cutA A k).1 (cutA A k).2.1 (cutA A k).2.2)
      have HST := Lib.hid (fun (W' : World) (F O N : Nat) (E : Int) (hsp : SpAny wr.drew w.heap.size X b6 T6 n6 (cutA A k).1 (cutA A k).2.1 (cutA A k).2.2.data.toList F O N E W') => hIa.step (by rw [← Lib.size_eq]; exact cut_size _) hsp)
      have HSC := Lib.hid (And.intro e1 (And.intro e2 e3))
      have HAC : Hid (∀ (W' : World) b' T' n', RInv w w4.heap.size w5.heap.size X (.slice (some ⟨q, off, none⟩) m5 c5) (cutA A) m5 (k + 1) W' b' T' n' → W'.cell? ⟨q, off + k * 3, none⟩ = some (.int .i64 (cutA A k).1) ∧ W'.cell? ⟨q, off + k * 3 + 1, none⟩ = some (.int .i64 (cutA A k).2.1) ∧ W'.cell? ⟨q, off + k * 3 + 2, none⟩ = some (.string (cutA A k).2.2)) := Lib.hid (fun W' b' T' n' hI' => by
        obtain ⟨_, _, e6, _, hcs'⟩ := hI'.2.2.2.2.1
        obtain ⟨q', off', e7, _, _, hcc'⟩ := hcs' (by omega)
        cases e6
        cases e7
        exact hcc' k hlt)
      obtain ⟨p0, hp0⟩ : ∃ p, p = (cutA A k).1 := ⟨_, rfl⟩
      obtain ⟨p1, hp1⟩ : ∃ p, p = (cutA A k).2.1 := ⟨_, rfl⟩
      obtain ⟨p2, hp2⟩ : ∃ p, p = (cutA A k).2.2 := ⟨_, rfl⟩
      rw [← hp0, ← hp1, ← hp2] at HSP HST HSC HAC
      rw [← hp0] at e1
      rw [← hp1] at e2
      rw [← hp2] at e3
      clear hcc hcs hI hIa hp0 hp1 hp2 hn6
      go_wp2_with fail
      go_region_held_law (fun w' => w'.cell? ⟨q, off + k * 3, none⟩ = some (.int .i64 p0) ∧ w'.cell? ⟨q, off + k * 3 + 1, none⟩ = some (.int .i64 p1) ∧ w'.cell? ⟨q, off + k * 3 + 2, none⟩ = some (.string p2))
        (first | exact HS7.out | exact ⟨e1, e2, e3⟩ | go_keep)
        (first
          | (go_at_call 15; refine HSP.out.mono ?_; rintro e w7 ⟨F, O, N, E, rfl, hsp⟩
             obtain ⟨b7, T7, hI7⟩ := HST.out w7 F O N E hsp
             have HI7 := Lib.hid hI7
             have HS7 := Lib.hid (HAC.out w7 _ _ _ hI7)
             clear hI7 hsp))
      go_wp2
      go_roundw
      case rel => exact ⟨k + 1, by omega, by simp, _, _, _, HI7.out⟩
      case measure => simp [intOf]; omega
    · obtain rfl : k = m5 := by omega
      have hsm := hI.1.small
      obtain ⟨wA, hwA⟩ : ∃ w, w = wr := ⟨_, rfl⟩
      rw [← hwA] at hI
      have L6 := Lib.hid hI.1
      have B6 := Lib.hid hI.2.2.1
      obtain ⟨N, hN⟩ : ∃ N, N = (splitL T6).length := ⟨_, rfl⟩
      have hN1 : N ≤ 4001 := by
        have : T6.count 10 ≤ T6.length := List.count_le_length
        rw [hN, splitL_len]; omega
      have HN := Lib.hid hN
      obtain ⟨i0, hi, hz0, hz1, hz2⟩ := info_tok
      obtain ⟨h6, hh6⟩ : ∃ h, h = wA.heap.size := ⟨_, rfl⟩
      have H6 := Lib.hid hh6
      have hst : ∀ W, Below h6 wA W → Lx W w.heap.size X b6 T6 n6 := fun W hb => L6.out.below (by rw [← H6.out]; exact hb)
      have hlns : ∀ W, Below h6 wA W → Calls Tryz.prog 18 #[.pointer (some ⟨X, 0, none⟩)] W fun e W' => e = .returned (.int .i64 (N : Int)) ∧ W' = W := fun W hb => by
        have := xlines_c W _ X b6 T6 n6 (hst W hb)
        rwa [← hN] at this
      have HST := Lib.hid hst
      have HLNS := Lib.hid hlns
      have hle : ∀ k, (toksJ ((splitL T6).take k)).length ≤ 4001 := fun k => by
        have h1 := toksJ_len ((splitL T6).take k)
        have h2 := begL_all (splitL T6) (splitL_ne T6)
        rw [join_split] at h2
        unfold begL at h2
        rw [List.take_length] at h2
        rw [List.map_take] at h1
        have h3 := sum_take_le ((splitL T6).map fun x => x.length + 1) k
        omega
      have HLE := Lib.hid hle
      have hbase : Below h6 wA wA ∧ h6 ≤ wA.heap.size := ⟨Below.refl _ _, by rw [hh6]; exact Nat.le_refl _⟩
      have HBA := Lib.hid hbase
      have hWA := hwA.symm
      clear hI hN hh6 hst hlns hle hbase hwA
      rw [hWA]
      clear hWA
      go_wp2
      go_loopw [9, 10] (fun v i wr' => ∃ (k : Nat), k ≤ N ∧ i = .int .i64 k ∧ Below h6 wA wr' ∧ OwnL wr' h6 v (toksJ ((splitL T6).take k)))
        (fun _ i _ => N - (intOf i).toNat)
      case atStart => exact ⟨0, Nat.zero_le _, rfl, HBA.out.1, World.ownsRow_nil _ _ _ _⟩
      case round =>
        obtain ⟨j, hj, rfl, hb1, hown⟩ := hrel
        have HB := Lib.hid hb1
        have HO := Lib.hid hown
        obtain ⟨a9, l9, c9, hv9⟩ := own_sl hown
        by_cases hlt2 : j < N
        · have hx : ∃ y, (splitL T6)[j]? = some y := ⟨_, List.getElem?_eq_getElem (by rw [← HN.out]; exact hlt2)⟩
          obtain ⟨y, hy⟩ := hx
          have hlin : linT T6 (j : Int) = toks st y 0 := by
            unfold linT
            rw [if_pos (by rw [← HN.out]; omega), Int.toNat_natCast, List.getD_eq_getElem?_getD, hy]
            rfl
          obtain ⟨L, hL⟩ : ∃ L, L = toks st y 0 := ⟨_, rfl⟩
          rw [← hL] at hlin
          have HLI : Hid (∀ W, Below h6 wA W → Calls Tryz.prog 20 #[.pointer (some ⟨X, 0, none⟩), .int .i64 (j : Int)] W fun e W' => ∃ v, e = .returned v ∧ OwnL W' W.heap.size v L ∧ Below W.heap.size W W') := Lib.hid (fun W hb => by
            have := xline_c W _ X b6 T6 n6 (HST.out W hb) (j : Int)
            rwa [hlin] at this)
          have HP : Hid (toksJ ((splitL T6).take (j + 1)) = if j = 0 then L else (toksJ ((splitL T6).take j) ++ [endTk]) ++ L) := Lib.hid (by
            rw [List.take_add_one, hy]
            by_cases h0 : j = 0
            · subst h0
              rw [if_pos rfl, hL]
              simp [toksJ]
            · rw [if_neg h0, show (some y).toList = [y] from rfl, toksJ_snoc _ _ (fun e => by
                have h9 : ((splitL T6).take j).length = 0 := by rw [e]; rfl
                rw [List.length_take, ← HN.out] at h9
                omega), hL]
              simp)
          have hl1 := HLE.out (j + 1)
          rw [HP.out] at hl1
          have HL1 := Lib.hid hl1
          have HBS : Hid (h6 ≤ wr.heap.size) := Lib.hid (Nat.le_trans HBA.out.2 hb1.size)
          have hlnj := HLNS.out wr hb1
          have HLNJ := Lib.hid hlnj
          clear hb1 hown hy hlin hL hl1 hlnj
          subst hv9
          by_cases h0 : j = 0
          · subst h0
            rw [if_pos rfl] at HP HL1
            have hP0 : toksJ ((splitL T6).take 0) = [] := rfl
            have HLI0 : Hid (Calls Tryz.prog 20 #[.pointer (some ⟨X, 0, none⟩), .int .i64 0] wr fun e W' => ∃ v, e = .returned v ∧ OwnL W' wr.heap.size v L ∧ Below wr.heap.size wr W') := Lib.hid (HLI.out wr HB.out)
            go_wp2_with fail
            refine HLNJ.out.mono ?_
            rintro e w7 ⟨rfl, hw⟩
            obtain rfl := hw.symm
            clear hw
            go_wp2_with fail
            refine HLI0.out.mono ?_
            rintro e w8 ⟨v8, rfl, ho8, hb8⟩
            obtain ⟨a8, l8, c8, rfl⟩ := own_sl ho8
            have HB8 := Lib.hid (HB.out.trans (hb8.mono HBS.out))
            have HO8 := Lib.hid (ownsRow_keep HO.out (fun k hk => hb8.block k (ownsRow_lt HO.out hk)))
            have HBS8 : Hid (h6 ≤ w8.heap.size) := Lib.hid (Nat.le_trans HBS.out hb8.size)
            have hat := toked_at ho8
            clear ho8 hb8
            rcases hat with ⟨rfl, rfl, rfl, hLn⟩ | ⟨g, rfl, rfl, hg, hcs⟩
            · have HLn := Lib.hid hLn
              clear hLn
              go_wp2_with (at_builtin; refine wpList_append_own_none rfl (.tmp 62) (.tmp 65) 44 rfl h6 55 i0 3 Tryz.underlying44 hi (.slice a9 l9 c9) _ (cellsL (toksJ ((splitL T6).take 0))) rfl HO8.out rfl ?_)
              go_roundw
              case rel => exact ⟨0 + 1, by omega, by simp, HB8.out, by rw [HP.out, HLn.out]; exact HO8.out⟩
              case measure => simp [intOf]; omega
            · have HCS := Lib.hid hcs
              clear hcs
              go_wp2_with (at_builtin; refine wpList_append_own _ rfl (.tmp 62) (.tmp 65) 44 rfl h6 55 i0 (.agg #[.int .i64 0, .string ⟨#[]⟩, .string ⟨#[]⟩]) 3 40 Tryz.underlying44 hi hz0 hz1 hz2 rfl (by decide) (.slice a9 l9 c9) _ (cellsL (toksJ ((splitL T6).take 0))) rfl HO8.out ⟨g, 0, none⟩ L.length c8 (cellsL L) rfl (cellsL_len L) HCS.out (cellsL_one L) (by have := HL1.out; rw [hP0]; unfold maxLen; simp; omega) (by have := HL1.out; rw [hP0]; simp; omega) HBS8.out ?_; intro v2 w2 ho2 hg2 _; have HO3 := Lib.hid ho2; have HG3 := Lib.hid hg2; clear ho2 hg2)
              go_roundw
              case rel =>
                refine ⟨0 + 1, by omega, by simp, HB8.out.grown HG3.out HBS8.out (fun j ej => (HO8.out.lt j ej).1), ?_⟩
                rw [HP.out]
                have h9 := HO3.out
                rw [hP0] at h9
                have e9 : ([] : List Tk).length + L.length = L.length := by simp
                rw [e9] at h9
                exact h9
              case measure => simp [intOf]; omega
          · rw [if_neg h0] at HP HL1
            have hz3 : ¬ ((j : Int) = 0) := by omega
            have hL2 := HL1.out
            rw [List.length_append, List.length_append, List.length_singleton] at hL2
            have HL2 := Lib.hid hL2
            have HO2 := Lib.hid (HO.out.alloc (.cells #[.int .i64 11, .string ⟨#[10]⟩, .string ⟨#[]⟩] 55))
            have HNW : Hid (∀ (j : Nat) (u : Value), [Value.int .i64 11, .string ⟨#[10]⟩, .string ⟨#[]⟩][j]? = some u → (wr.alloc (.cells #[.int .i64 11, .string ⟨#[10]⟩, .string ⟨#[]⟩] 55)).cell? ((⟨wr.heap.size, 0, none⟩ : Addr).add j) = some u) := Lib.hid (World.news_of_block (World.alloc_heap_new wr (.cells #[.int .i64 11, .string ⟨#[10]⟩, .string ⟨#[]⟩] 55)))
            have HON1 : Hid (∀ u ∈ [Value.int .i64 11, .string ⟨#[10]⟩, .string ⟨#[]⟩], u.oneCell' = true) := Lib.hid (by intro u hu; simp at hu; rcases hu with rfl | rfl | rfl <;> rfl)
            have HLA : Hid (((toksJ ((splitL T6).take j)).length + 1 ≤ maxLen ∧ ((toksJ ((splitL T6).take j)).length + 1) * 40 ≤ 140737488355328) ∧ ((toksJ ((splitL T6).take j)).length + 1 + L.length ≤ maxLen ∧ ((toksJ ((splitL T6).take j)).length + 1 + L.length) * 40 ≤ 140737488355328)) := Lib.hid (by have := HL2.out; exact ⟨⟨by unfold maxLen; omega, by omega⟩, ⟨by unfold maxLen; omega, by omega⟩⟩)
            have HB2 : Hid (Below h6 wA (wr.alloc (.cells #[.int .i64 11, .string ⟨#[10]⟩, .string ⟨#[]⟩] 55))) := Lib.hid (HB.out.alloc HBS.out _)
            have HB2S : Hid (h6 ≤ (wr.alloc (.cells #[.int .i64 11, .string ⟨#[10]⟩, .string ⟨#[]⟩] 55)).heap.size) := Lib.hid (by rw [World.size_alloc]; have := HBS.out; omega)
            clear hL2
            go_wp2_with fail
            refine HLNJ.out.mono ?_
            rintro e w7 ⟨rfl, hw⟩
            obtain rfl := hw.symm
            clear hw
            go_wp2_with (at_builtin; refine wpList_append_own _ rfl (.tmp 58) (.tmp 60) 44 rfl h6 55 i0 (.agg #[.int .i64 0, .string ⟨#[]⟩, .string ⟨#[]⟩]) 3 40 Tryz.underlying44 hi hz0 hz1 hz2 rfl (by decide) (.slice a9 l9 c9) _ (cellsL (toksJ ((splitL T6).take j))) rfl HO2.out ⟨wr.heap.size, 0, none⟩ 1 1 [.int .i64 11, .string ⟨#[10]⟩, .string ⟨#[]⟩] rfl rfl HNW.out HON1.out HLA.out.1.1 HLA.out.1.2 HB2S.out ?_)
            intro v1 w1' ho1 hg1 _
            obtain ⟨a1, l1, c1', rfl⟩ := own_sl ho1
            have HO1 := Lib.hid ho1
            have HB3 : Hid (Below h6 wA w1') := Lib.hid (HB2.out.grown hg1 HB2S.out (fun j ej => (HO2.out.lt j ej).1))
            have HB3S : Hid (h6 ≤ w1'.heap.size) := Lib.hid (Nat.le_trans HB2S.out hg1.size)
            clear ho1 hg1
            go_wp2_with fail
            refine (HLI.out w1' HB3.out).mono ?_
            rintro e w8 ⟨v8, rfl, ho8, hb8⟩
            obtain ⟨a8, l8, c8, rfl⟩ := own_sl ho8
            have HB8 := Lib.hid (HB3.out.trans (hb8.mono HB3S.out))
            have HO8 := Lib.hid (ownsRow_keep HO1.out (fun k hk => hb8.block k (ownsRow_lt HO1.out hk)))
            have HBS8 : Hid (h6 ≤ w8.heap.size) := Lib.hid (Nat.le_trans HB3S.out hb8.size)
            have hat := toked_at ho8
            clear ho8 hb8
            rcases hat with ⟨rfl, rfl, rfl, hLn⟩ | ⟨g, rfl, rfl, hg, hcs⟩
            · have HLn := Lib.hid hLn
              clear hLn
              go_wp2_with (at_builtin; refine wpList_append_own_none rfl (.tmp 62) (.tmp 65) 44 rfl h6 55 i0 3 Tryz.underlying44 hi (.slice a1 l1 c1') _ _ rfl HO8.out rfl ?_)
              go_roundw
              case rel =>
                refine ⟨j + 1, by omega, by simp, HB8.out, ?_⟩
                rw [HP.out, HLn.out, List.append_nil]
                show w8.ownsRow _ _ 3 _ (toksJ ((splitL T6).take j) ++ [endTk]).length (cellsL (toksJ ((splitL T6).take j) ++ [endTk]))
                rw [List.length_append, cellsL_app, cellsL_end]
                exact HO8.out
              case measure => simp [intOf]; omega
            · have HCS := Lib.hid hcs
              clear hcs
              go_wp2_with (at_builtin; refine wpList_append_own _ rfl (.tmp 62) (.tmp 65) 44 rfl h6 55 i0 (.agg #[.int .i64 0, .string ⟨#[]⟩, .string ⟨#[]⟩]) 3 40 Tryz.underlying44 hi hz0 hz1 hz2 rfl (by decide) (.slice a1 l1 c1') _ _ rfl HO8.out ⟨g, 0, none⟩ L.length c8 (cellsL L) rfl (cellsL_len L) HCS.out (cellsL_one L) HLA.out.2.1 HLA.out.2.2 HBS8.out ?_; intro v2 w2 ho2 hg2 _; have HO3 := Lib.hid ho2; have HG3 := Lib.hid hg2; clear ho2 hg2)
              go_roundw
              case rel =>
                refine ⟨j + 1, by omega, by simp, HB8.out.grown HG3.out HBS8.out (fun j ej => (HO8.out.lt j ej).1), ?_⟩
                rw [HP.out]
                show w2.ownsRow _ _ 3 v2 (toksJ ((splitL T6).take j) ++ [endTk] ++ L).length (cellsL (toksJ ((splitL T6).take j) ++ [endTk] ++ L))
                rw [List.length_append, List.length_append, cellsL_app, cellsL_app, cellsL_end]
                exact HO3.out
              case measure => simp [intOf]; omega
        · subst hv9
          obtain rfl : j = N := by omega
          have hfull : toksJ ((splitL T6).take j) = tokT T6 := by unfold tokT; rw [HN.out, List.take_length]
          have hlnj := HLNS.out wr hb1
          have HLNJ := Lib.hid hlnj
          rw [hfull] at hown
          have V9 := Lib.hid (OwnL.tlT hsm hown)
          have L9 := Lib.hid (HST.out wr hb1)
          have B9 := Lib.hid (B6.out.trans (hb1.mono (by rw [H6.out]; exact B6.out.size)))
          clear hb1 hown hlnj hfull
          go_wp2_with fail
          refine HLNJ.out.mono ?_
          rintro e w7 ⟨rfl, hw⟩
          obtain rfl := hw.symm
          clear hw
          go_wp2_with fail
          refine (xtokens_c wr _ X b6 T6 n6 L9.out).mono ?_
          rintro e w12 ⟨v12, rfl, ho12, hb12⟩
          have B12 := Lib.hid (B9.out.trans (hb12.mono B9.out.size))
          have V12 := Lib.hid (OwnL.tlT hsm ho12)
          have U12 := Lib.hid (V9.out.below hb12)
          clear ho12 hb12
          go_wp2_with fail
          refine (rsame_c _ v12 _ _ w12 U12.out V12.out).mono ?_
          rintro e w13 ⟨rfl, hb13⟩
          have B13 := Lib.hid (B12.out.trans (hb13.mono B12.out.size))
          clear hb13
          have hdec : decide (tokT T6 = tokT T6) = true := by simp
          rw [hdec]
          go_wp2_with fail
          go_ret
          exact ⟨rfl, B13.out⟩
theorem joins_true (w : World) (hG : RG w.heap.size w) (x : ByteArray) (_ : x.size ≤ maxLen) (v : Value) (A : Nat → Int × Int × ByteArray) (len : Nat) (hA : ActsIn 0 w.heap.size w v A len) :
    Calls Tryz.prog 8 #[.string x, v] w fun e W' => e = .returned (.bool true) ∧ Below w.heap.size w W' := by
  by_cases h : (cut x).size ≤ 4000
  · exact joins_ok w hG x v A len hA h
  · exact joins_full w hG x v (by omega)
end Go.Proofs.YtkbidbmejpiomaaGreatDoor
