/- The statement PlaceJoins, walked. -/
import Derived.Test.YtaahhilnkffdlaaDoorPgUse
namespace Go.Proofs.YtaahhilnkffdlaaDoor
open Go Go.RowKit

/-- The text of the first k lines, with a line end between two. -/
theorem joins_step (T : List UInt8) (k : Nat) (hk : k < nlines T) : (T.take (lineAt T k)) ++ lineT T k = T.take (lineEnd T k) := by
  have h1 := lineAt_lineEnd T k hk
  unfold lineT
  rw [← List.take_append_drop (lineAt T k) (T.take (lineEnd T k)), List.take_take, Nat.min_eq_left h1, List.drop_take]
theorem joins_nl (T : List UInt8) (k : Nat) (hk : k + 1 < nlines T) : T.take (lineEnd T k) ++ [10] = T.take (lineAt T (k + 1)) := by
  have h1 := lineAt_succ T k hk
  have h2 := (starts_end T T.length k hk).2
  have h4 : (starts T T.length).getD (k + 1) 0 - 1 = lineEnd T k := by
    have : lineAt T (k + 1) = (starts T T.length).getD (k + 1) 0 := rfl
    omega
  rw [h4] at h2
  rw [h1]
  obtain ⟨hlt, he⟩ := List.getElem?_eq_some_iff.1 h2
  rw [List.take_succ_eq_append_getElem hlt, he]

/-- Where the text ends that has come behind k rounds. -/
def endJ (T : List UInt8) (k : Nat) : Nat := if k = 0 then 0 else lineEnd T (k - 1)
theorem bytes_ext {a b : ByteArray} (h : a.data.toList = b.data.toList) : a = b := by
  cases a; cases b
  simp only [ByteArray.mk.injEq]
  exact Array.toList_inj.1 h
theorem ext0 (t : ByteArray) (e : Nat) : (t.extract 0 e).data.toList = t.data.toList.take e := by
  rw [ByteArray.data_extract, Array.toList_extract]
  simp [List.extract]
theorem ext0_size (t : ByteArray) (e : Nat) (h : e ≤ t.size) : (t.extract 0 e).size = e := by
  rw [ByteArray.size_extract]; omega
theorem app_line (t : ByteArray) (k a b : Nat) (hk : k < nlines t.data.toList) (ha : a = lineAt t.data.toList k) (hb : b = lineEnd t.data.toList k) : t.extract 0 a ++ t.extract a b = t.extract 0 b := by
  apply bytes_ext
  have h1 := joins_step t.data.toList k hk
  rw [lineT_ext t k a b ha hb] at h1
  rw [ByteArray.data_append, Array.toList_append, ext0, ext0]
  rw [← ha, ← hb] at h1
  exact h1
theorem app_nl (t : ByteArray) (k e a : Nat) (hk : k + 1 < nlines t.data.toList) (he : e = lineEnd t.data.toList k) (ha : a = lineAt t.data.toList (k + 1)) : t.extract 0 e ++ ⟨#[10]⟩ = t.extract 0 a := by
  apply bytes_ext
  have h1 := joins_nl t.data.toList k hk
  rw [ByteArray.data_append, Array.toList_append, ext0, ext0, he, ha]
  exact h1

set_option maxHeartbeats 4000000 in
set_option maxRecDepth 100000 in
theorem joins_true (w : World) (hG : Ground w) (s : ByteArray) (hs : s.size ≤ maxLen) :
    Calls Tryd.prog 6 #[.string s] w fun e W' => e = .returned (.bool true) ∧ Below w.heap.size w W' := by
  have HC := fun w => Lib.hid (cut_c s hs w)
  obtain ⟨t, ht⟩ : ∃ t, t = cut6 s := ⟨_, rfl⟩
  have ht6 : t.size ≤ 600 := by rw [ht]; exact cut6_size s
  rw [← ht] at HC
  have HS := fun w h => Lib.hid (shown_c w h)
  obtain ⟨N, hN⟩ : ∃ N, N = nlines t.data.toList := ⟨_, rfl⟩
  have hN1 : 1 ≤ N := by rw [hN]; exact nlines_pos t.data.toList
  have hN2 : N ≤ 601 := by rw [hN]; have := nlines_le t.data.toList; rw [← Lib.size_eq] at this; omega
  have HL : ∀ w, Hid (Calls Tryd.prog 17 #[.string t] w fun e W' => ∃ g, e = .returned (.slice (some ⟨g, 0, none⟩) N N) ∧ g < W'.heap.size ∧ (∀ k, k < N → W'.cell? ⟨g, k, none⟩ = some (.int .i64 ((lineAt t.data.toList k : Nat) : Int))) ∧ Below w.heap.size w W') := fun w => Lib.hid (by
    refine (plines_c t ht6 w).mono ?_
    rintro e w' ⟨g, rfl, h1, h2, h3, hb⟩
    rw [← hN] at h3 ⊢
    refine ⟨g, rfl, h2, fun k hk => ?_, hb⟩
    rw [h3 k (by rw [lat_len]; exact hk)]
    simp [lat, hk])
  have HLI := fun (k : Nat) (hk : k < nlines t.data.toList) w => Lib.hid (pline_ok t ht6 k hk w)
  have HLN := fun w h => Lib.hid (pline_no t ht6 (nlines t.data.toList : Int) (.inr (Int.le_refl _)) w h)
  have HG := Lib.hid hG
  have HN := Lib.hid hN
  rw [← hN] at HLN
  clear ht hG hN
  go_enter Tryd.func6, Tryd.ntmps6
  go_wp2_with fail
  refine (HS _ HG.out).out.mono ?_
  rintro e w1 ⟨rfl, hb1⟩
  have HG1 := Lib.hid (HG.out.below hb1 HG.out.2.2)
  have HB1 := Lib.hid hb1
  clear hb1
  go_wp2_with (go_at_call 11; refine (HC _).out.mono ?_; rintro e w' ⟨rfl, rfl⟩)
  refine (HL _).out.mono ?_
  rintro e w2 ⟨g, rfl, hg2, hci, hb2⟩
  have HCI := Lib.hid hci
  have HB2 := Lib.hid (HB1.out.trans (hb2.mono HB1.out.size))
  have HG2 := Lib.hid (HG1.out.below hb2 HG1.out.2.2)
  clear hb2 hci HS HL HC
  go_wp2
  go_loopw [5, 6] (fun u i wr => ∃ k : Nat, k ≤ N ∧ i = .int .i64 k ∧ u = .string (t.extract 0 (endJ t.data.toList k)) ∧ Below w2.heap.size w2 wr)
    (fun _ i _ => N - (intOf i).toNat)
  case atStart => exact ⟨0, Nat.zero_le _, rfl, by
    show _ = Value.string (t.extract 0 0)
    congr 1
    apply bytes_ext
    rw [ext0]
    rfl, Below.refl _ _⟩
  case round =>
    obtain ⟨k, hk, rfl, rfl, hB⟩ := hrel
    have HB := Lib.hid hB
    have hgr : g < wr.heap.size := Nat.lt_of_lt_of_le hg2 hB.size
    clear hB
    by_cases hlt : k < N
    · have hkn : k < nlines t.data.toList := by rw [← HN.out]; exact hlt
      have hcell : wr.cell? ⟨g, k, none⟩ = some (.int .i64 ((lineAt t.data.toList k : Nat) : Int)) := (HB.out.cell (p := ⟨g, k, none⟩) hg2).trans (HCI.out k hlt)
      obtain ⟨a, ha⟩ : ∃ a, a = lineAt t.data.toList k := ⟨_, rfl⟩
      obtain ⟨b, hb⟩ : ∃ b, b = lineEnd t.data.toList k := ⟨_, rfl⟩
      have HLK := fun w => Lib.hid (HLI k hkn w).out
      rw [← ha, ← hb] at HLK
      rw [← ha] at hcell
      have happ := app_line t k a b hkn ha hb
      have hend : endJ t.data.toList (k + 1) = b := by rw [hb]; unfold endJ; rw [if_neg (by omega)]; rfl
      have hab : a ≤ b ∧ b ≤ t.size := by rw [ha, hb]; exact ⟨lineAt_lineEnd _ _ hkn, by rw [Lib.size_eq]; exact lineEnd_le _ _⟩
      have hsa := ext0_size t a (by omega)
      have ha6 : a ≤ 600 := by omega
      have HEND := Lib.hid hend
      have HCELL := Lib.hid hcell
      by_cases h0 : k = 0
      · subst h0
        have ha0 : a = 0 := by rw [ha]; exact lineAt_zero _
        have he0 : endJ t.data.toList 0 = a := by rw [ha0]; rfl
        rw [he0]
        obtain ⟨acc, hacc⟩ : ∃ acc, acc = t.extract 0 a := ⟨_, rfl⟩
        obtain ⟨xs, hxs⟩ : ∃ xs, xs = t.extract a b := ⟨_, rfl⟩
        obtain ⟨acc2, hacc2⟩ : ∃ acc2, acc2 = t.extract 0 b := ⟨_, rfl⟩
        rw [← hacc, ← hxs, ← hacc2] at happ
        rw [← hacc] at hsa ⊢
        rw [← hxs] at HLK
        have hx6 : xs.size ≤ 600 := by rw [hxs, ByteArray.size_extract]; omega
        have HA2 := Lib.hid hacc2
        clear hacc hxs hacc2 hend hcell ha hb HLI he0 hkn
        go_wp2_with fail
        refine (HLK _).out.mono ?_
        rintro e w3 ⟨rfl, hb3⟩
        have HB3 := Lib.hid (HB.out.trans (hb3.mono HB.out.size))
        have hc3 : w3.cell? ⟨g, 0, none⟩ = some (.int .i64 (a : Int)) := (hb3.cell (p := ⟨g, 0, none⟩) hgr).trans HCELL.out
        clear hb3
        go_wp2
        go_roundw
        case rel => exact ⟨1, by omega, rfl, by rw [HA2.out, ← HEND.out], HB3.out⟩
        case measure => simp [intOf]; omega
      · have he : endJ t.data.toList k = lineEnd t.data.toList (k - 1) := by unfold endJ; rw [if_neg h0]
        obtain ⟨e, hee⟩ : ∃ e, e = endJ t.data.toList k := ⟨_, rfl⟩
        rw [← hee]
        have hnl := app_nl t (k - 1) e a (by omega) (by rw [hee, he]) (by rw [ha]; congr 1; omega)
        have he6 : e ≤ 600 := by rw [hee, he]; have := lineEnd_le t.data.toList (k - 1); rw [← Lib.size_eq] at this; omega
        obtain ⟨acc, hacc⟩ : ∃ acc, acc = t.extract 0 e := ⟨_, rfl⟩
        obtain ⟨acc1, hacc1⟩ : ∃ acc1, acc1 = t.extract 0 a := ⟨_, rfl⟩
        obtain ⟨xs, hxs⟩ : ∃ xs, xs = t.extract a b := ⟨_, rfl⟩
        obtain ⟨acc2, hacc2⟩ : ∃ acc2, acc2 = t.extract 0 b := ⟨_, rfl⟩
        have hs0 : acc.size ≤ 600 := by rw [hacc, ByteArray.size_extract]; omega
        have hx6 : xs.size ≤ 600 := by rw [hxs, ByteArray.size_extract]; omega
        rw [← hacc1, ← hxs, ← hacc2] at happ
        rw [← hacc, ← hacc1] at hnl
        rw [← hacc1] at hsa
        rw [← hacc]
        rw [← hxs] at HLK
        have HA2 := Lib.hid hacc2
        have hk0 : 0 < k := by omega
        clear hacc hacc1 hxs hacc2 hend hcell ha hb HLI hkn he hee h0
        go_wp2_with fail
        refine (HLK _).out.mono ?_
        rintro e' w3 ⟨rfl, hb3⟩
        have HB3 := Lib.hid (HB.out.trans (hb3.mono HB.out.size))
        have hc3 : w3.cell? ⟨g, k, none⟩ = some (.int .i64 (a : Int)) := (hb3.cell (p := ⟨g, k, none⟩) hgr).trans HCELL.out
        have hg3 : g < w3.heap.size := Nat.lt_of_lt_of_le hgr hb3.size
        clear hb3
        go_wp2
        go_roundw
        case rel => exact ⟨k + 1, by omega, by go_num, by rw [HA2.out, ← HEND.out], HB3.out⟩
        case measure => simp [intOf]; omega
    · have hke : k = N := by omega
      subst hke
      have hfin : t.extract 0 (endJ t.data.toList k) = t := by
        apply bytes_ext
        rw [ext0]
        unfold endJ
        rw [if_neg (by omega), lineEnd_last _ _ (by rw [← HN.out]; omega), List.take_length]
      rw [hfin]
      have HE := fun w h => Lib.hid (HLN w h).out
      have hG3 := HG2.out.below HB.out HG2.out.2.2
      have HG3 := Lib.hid hG3
      clear hfin HLN HLI hG3
      go_wp2_with fail
      refine (HE _ HG3.out.2.1).out.mono ?_
      rintro e w4 ⟨rfl, hb4⟩
      have HB4 := Lib.hid (HB2.out.trans ((HB.out.trans (hb4.mono HB.out.size)).mono HB2.out.size))
      clear hb4
      go_wp2
      go_ret
      exact ⟨rfl, HB4.out⟩
end Go.Proofs.YtaahhilnkffdlaaDoor
