/- The plain Text and Plain. -/
import Derived.Test.YthnnjogkomhmfaaDoorLiPlain
import Derived.Test.YthnnjogkomhmfaaDoorLiText
import Derived.Laws.StructEq
namespace Go.Proofs.YthnnjogkomhmfaaDoor.Ti
open Go Go.RowKit Go.Shelf
attribute [local go_sem] Oper.semAt_some

theorem bs_app (a b : List UInt8) : bs a ++ bs b = bs (a ++ b) := by
  have h : (bs a ++ bs b).data.toList = a ++ b := by
    rw [ByteArray.data_append]
    simp [bs]
  have := congrArg bs h
  rwa [bs_of] at this

set_option maxRecDepth 100000 in
set_option maxHeartbeats 4000000 in
theorem rtext_c (v : Value) (L : List Tk) (w : World) (hL : TL w v L) (hl : (textOf L).length ≤ 1000000) :
    Calls Tryd.prog 12 #[v] w fun e W' => e = .returned (.string (bs (textOf L))) ∧ W' = w := by
  obtain ⟨a0, c0, rfl, hc1, hc2⟩ := hL.form
  unfold maxLen at hc2
  have HCL := Lib.hid hL.cells
  obtain ⟨n, hn⟩ : ∃ n, n = L.length := ⟨_, rfl⟩
  rw [← hn] at hc1 HCL ⊢
  have HN := Lib.hid hn
  have HL := Lib.hid hl
  clear hL hn hl
  go_enter Tryd.func12, Tryd.ntmps12
  go_wp2
  go_loopw [3, 4] (fun u i wr => ∃ k : Nat, k ≤ n ∧ i = .int .i64 k ∧ u = .string (bs (textOf (L.take k))) ∧ wr = w)
    (fun _ i _ => n - (intOf i).toNat)
  case atStart => exact ⟨0, Nat.zero_le _, rfl, rfl, rfl⟩
  case round =>
    obtain ⟨k, hk, rfl, rfl, hw⟩ := hrel
    obtain rfl := hw
    by_cases hlt : k < n
    · obtain ⟨g, o, c1, hv, hg, hcs⟩ := HCL.out (by omega)
      obtain rfl : a0 = some ⟨g, o, none⟩ := by injection hv
      obtain ⟨t, ht⟩ : ∃ t, L[k]? = some t := ⟨_, List.getElem?_eq_getElem (by rw [← HN.out]; exact hlt)⟩
      obtain ⟨_, e1, _⟩ := hcs k t ht
      have hsn := textOf_snoc L k t ht
      have hlen := textOf_take L (k + 1)
      obtain ⟨U, hU⟩ : ∃ U, U = bs t.text := ⟨_, rfl⟩
      obtain ⟨S, hS⟩ : ∃ S, S = bs (textOf (L.take k)) := ⟨_, rfl⟩
      have hnx : S ++ U = bs (textOf (L.take (k + 1))) := by rw [hS, hU, bs_app, hsn]
      have hsz : S.size + U.size ≤ 1000000 := by
        have := HL.out
        rw [hsn, List.length_append] at hlen
        rw [hS, hU, bs_size, bs_size]
        omega
      rw [← hU] at e1
      rw [← hS]
      have HNX := Lib.hid hnx
      clear hcs hv ht hsn hlen hU hS hnx
      go_wp2
      go_roundw
      case rel => exact ⟨k + 1, by omega, by simp, by rw [← HNX.out], trivial⟩
      case measure => simp [intOf]; omega
    · obtain rfl : k = n := by omega
      have HT : Hid (textOf (L.take k) = textOf L) := Lib.hid (by rw [HN.out, List.take_length])
      go_wp2
      go_ret
      exact ⟨by rw [HT.out]; rfl, rfl⟩

set_option maxRecDepth 100000 in
set_option maxHeartbeats 4000000 in
theorem rplain_c (v : Value) (L : List Tk) (w : World) (hL : TL w v L) (hl : L.length ≤ 10000) :
    Calls Tryd.prog 15 #[v] w fun e W' => ∃ v', e = .returned v' ∧ TL W' v' (L.filter plainT) ∧ Below w.heap.size w W' := by
  obtain ⟨i0, hi, hz0, hz1, hz2⟩ := info_tok
  obtain ⟨a0, c0, rfl, hc1, hc2⟩ := hL.form
  unfold maxLen at hc2
  have HCL := Lib.hid hL.cells
  obtain ⟨n, hn⟩ : ∃ n, n = L.length := ⟨_, rfl⟩
  rw [← hn] at hc1 hl HCL ⊢
  have HN := Lib.hid hn
  clear hL hn
  go_enter Tryd.func15, Tryd.ntmps15
  go_wp2
  go_loopw [3, 4] (fun u i wr => ∃ k : Nat, k ≤ n ∧ i = .int .i64 k ∧ OwnL wr w.heap.size u ((L.take k).filter plainT) ∧ Below w.heap.size w wr)
    (fun _ i _ => n - (intOf i).toNat)
  case atStart => exact ⟨0, Nat.zero_le _, rfl, World.ownsRow_nil _ _ _ _, Below.refl _ _⟩
  case round =>
    obtain ⟨k, hk, rfl, hown, hb1⟩ := hrel
    have HO := Lib.hid hown
    have HB1 := Lib.hid hb1
    clear hown hb1
    by_cases hlt : k < n
    · obtain ⟨g, o, c1, hv, hg, hcs⟩ := HCL.out (by omega)
      obtain rfl : a0 = some ⟨g, o, none⟩ := by injection hv
      obtain ⟨t, ht⟩ : ∃ t, L[k]? = some t := ⟨_, List.getElem?_eq_getElem (by rw [← HN.out]; exact hlt)⟩
      obtain ⟨x0, x1, x2⟩ := hcs k t ht
      have hb := HB1.out
      have e0 := (hb.cell (p := ⟨g, o + k * 3, none⟩) hg).trans x0
      have e1 := (hb.cell (p := ⟨g, o + k * 3 + 1, none⟩) hg).trans x1
      have e2 := (hb.cell (p := ⟨g, o + k * 3 + 2, none⟩) hg).trans x2
      have hfil := filter_snoc L k t ht
      obtain ⟨kn, hkn⟩ : ∃ kn : Int, kn = t.kind := ⟨_, rfl⟩
      obtain ⟨U, hU⟩ : ∃ U, U = bs t.text := ⟨_, rfl⟩
      obtain ⟨G, hGl⟩ : ∃ G, G = bs t.glyph := ⟨_, rfl⟩
      have htl : tokL t = [.int .i64 kn, .string U, .string G] := by rw [hkn, hU, hGl]; rfl
      have hpt : plainT t = (kn != 1 && kn != 2) := by rw [hkn]; rfl
      rw [← hkn] at e0
      rw [← hU] at e1
      rw [← hGl] at e2
      have HTL := Lib.hid htl
      have HFIL := Lib.hid hfil
      have HPT := Lib.hid hpt
      clear hb hcs x0 x1 x2 hv ht hfil hkn hU hGl htl hpt
      by_cases hk1 : kn = 1
      · subst hk1
        have HP : Hid ((L.take (k + 1)).filter plainT = (L.take k).filter plainT) := Lib.hid (by rw [HFIL.out, HPT.out]; rfl)
        go_wp2
        go_roundw
        case rel => exact ⟨k + 1, by omega, by simp, by rw [HP.out]; exact HO.out, HB1.out⟩
        case measure => simp [intOf]; omega
      · by_cases hk2 : kn = 2
        · subst hk2
          have HP : Hid ((L.take (k + 1)).filter plainT = (L.take k).filter plainT) := Lib.hid (by rw [HFIL.out, HPT.out]; rfl)
          clear hk1
          go_wp2
          go_roundw
          case rel => exact ⟨k + 1, by omega, by simp, by rw [HP.out]; exact HO.out, HB1.out⟩
          case measure => simp [intOf]; omega
        · have HP : Hid ((L.take (k + 1)).filter plainT = (L.take k).filter plainT ++ [t]) := Lib.hid (by rw [HFIL.out, HPT.out, if_pos (by simp [hk1, hk2])])
          have q1 : (kn != 1) = true := by simpa using hk1
          have q2 : (kn != 2) = true := by simpa using hk2
          have HONE : Hid (∀ u ∈ [Value.int .i64 kn, .string U, .string G], u.oneCell' = true) := Lib.hid (by intro u hu; simp at hu; rcases hu with rfl | rfl | rfl <;> rfl)
          have HOA : Hid ((wr.alloc (.cells #[.int .i64 kn, .string U, .string G] 30)).ownsRow w.heap.size 30 3 u3 ((L.take k).filter plainT).length (cellsL ((L.take k).filter plainT))) := Lib.hid (HO.out.alloc _)
          have hfl : ((L.take k).filter plainT).length ≤ k := by have := List.length_filter_le plainT (L.take k); rw [List.length_take] at this; omega
          obtain ⟨fl, hfle⟩ : ∃ fl, fl = ((L.take k).filter plainT).length := ⟨_, rfl⟩
          rw [← hfle] at hfl HOA
          have HFE := Lib.hid hfle
          have HLEN : Hid (fl + 1 ≤ maxLen ∧ (fl + 1) * 40 ≤ 140737488355328) := Lib.hid ⟨by unfold maxLen; omega, by omega⟩
          have HBB : Hid (Below w.heap.size w (wr.alloc (.cells #[.int .i64 kn, .string U, .string G] 30))) := Lib.hid (HB1.out.alloc HB1.out.size _)
          have HNW := Lib.hid (World.news_of_block (World.alloc_heap_new wr (.cells #[.int .i64 kn, .string U, .string G] 30)))
          clear hfle hk1 hk2
          go_wp2_with (at_builtin; refine wpList_append_lies _ rfl (.tmp 25) (.tmp 30) 22 rfl w.heap.size 30 i0 (.agg #[.int .i64 0, .string ⟨#[]⟩, .string ⟨#[]⟩]) 3 40 Tryd.underlying22 hi hz0 hz1 hz2 rfl (by decide) u3 fl (cellsL ((L.take k).filter plainT)) rfl HOA.out ⟨wr.heap.size, 0, none⟩ 1 1 [.int .i64 kn, .string U, .string G] rfl rfl HNW.out HONE.out (by decide) HLEN.out.1 HLEN.out.2 HBB.out.size _ rfl ?_; intro g3 cap3 w4 hown4 hgrow4 _ _; have HO4 := Lib.hid hown4; have HB4 := Lib.hid (HBB.out.grown hgrow4 HBB.out.size (fun j ej => (HOA.out.lt j ej).1)); clear hown4 hgrow4)
          go_roundw
          case rel =>
            refine ⟨k + 1, by omega, by simp, ?_, HB4.out⟩
            rw [HP.out]
            show World.ownsRow _ _ _ _ _ _ _
            rw [cellsL_snoc, HTL.out, List.length_append, List.length_singleton, ← HFE.out]
            exact HO4.out
          case measure => simp [intOf]; omega
    · obtain rfl : k = n := by omega
      have HP : Hid ((L.take k).filter plainT = L.filter plainT) := Lib.hid (by rw [HN.out, List.take_length])
      have HLN : Hid ((L.filter plainT).length ≤ maxLen) := Lib.hid (by have := List.length_filter_le plainT L; have := HN.out; unfold maxLen; omega)
      go_wp2
      go_ret
      refine ⟨_, rfl, ?_, HB1.out⟩
      have := HO.out
      rw [HP.out] at this
      exact OwnL.tl HLN.out this
end Go.Proofs.YthnnjogkomhmfaaDoor.Ti
