/- The law's side: what is always shown. -/
import Derived.Test.YtbegplfijjbpcaaDoorNqShw
import Derived.Test.YtbegplfijjbpcaaDoorNqDeep
import Derived.Test.YtbegplfijjbpcaaDoorNoC
namespace Go.Proofs.YtbegplfijjbpcaaDoor.No
open Go Go.RowKit Go.Shelf
attribute [local go_sem] Oper.semAt_some

theorem OUT.yes {w W' : World} {e : Ending} {A : List Nd} (h : OUT w W' e (A, 0)) : ∃ q cap, e = .returned (.tuple #[.slice (some ⟨q, 0, none⟩) A.length cap, .int .i64 0]) ∧ NL W' (.slice (some ⟨q, 0, none⟩) A.length cap) A := by
  rcases h with ⟨bb, q, r, cap, total, L, u, rfl, hB, hA⟩ | ⟨hA, rfl⟩
  · injection hA with hA _
    subst hA
    exact ⟨q, cap, by rw [List.length_map], by have := hB.nl; rw [List.length_map]; exact this⟩
  · injection hA with _ hA
    cases hA
theorem OUT.no {w W' : World} {e : Ending} (h : OUT w W' e ([], 70)) : e = .returned (.tuple #[.slice none 0 0, .int .i64 70]) := by
  rcases h with ⟨bb, q, r, cap, total, L, u, rfl, hB, hA⟩ | ⟨hA, rfl⟩
  · injection hA with _ hA
    cases hA
  · rfl
def nA : Nd := ⟨9, [43], []⟩
def nB : Nd := ⟨1, [49], []⟩
def tS : List Nd := [⟨9, [43], []⟩, ⟨1, [49], []⟩, ⟨6, [], [0, 1]⟩]
theorem jA : joinA 9 [43] [] = ([nA], 0) := by decide +kernel
theorem jB : joinA 1 [49] [] = ([nB], 0) := by decide +kernel
theorem jS : joinA 6 [] [[nA], [nB]] = (tS, 0) := by decide +kernel
theorem jN : joinA 6 [] [] = ([], 70) := by decide +kernel
theorem kS : kidA tS 1 = ([nB], 0) := by decide +kernel
theorem sS : showA tS = [40, 54, 58, 32, 57, 58, 43, 32, 49, 58, 49, 41] := by decide +kernel
theorem dS : deepA tS = 2 := by decide +kernel
theorem rS : rightB tS = true := by decide +kernel
theorem small_nd : ∀ x ∈ tS, x.kids.length ≤ 1000000 ∧ x.text.length ≤ 10000000 := by decide +kernel
theorem small_a : ∀ K ∈ [[nA], [nB]], ∀ x ∈ K, x.kids.length ≤ 1000000 ∧ x.text.length ≤ 10000000 := by decide +kernel
/-- Two lists of nodes in a new block. -/
theorem ll_two {w : World} {u v : Value} {A B : List Nd} (hA : NL w u A) (hB : NL w v B) : LL (w.alloc (.cells #[u, v] 22)) (.slice (some ⟨w.heap.size, 0, none⟩) 2 2) [A, B] := by
  have hb : Below w.heap.size w (w.alloc (.cells #[u, v] 22)) := (Below.refl _ w).alloc (Nat.le_refl _) _
  refine ⟨⟨_, 2, rfl, Nat.le_refl _, by decide⟩, fun _ => ⟨w.heap.size, 0, 2, rfl, by rw [World.size_alloc]; omega, fun j K hj => ?_⟩⟩
  have hr := Row.new w 22 #[u, v]
  rcases j with _ | _ | j
  · cases hj
    exact ⟨u, hr.cell 0, hA.below hb⟩
  · cases hj
    exact ⟨v, hr.cell 1, hB.below hb⟩
  · simp at hj

set_option maxRecDepth 100000 in
set_option maxHeartbeats 16000000 in
/-- shown(). -/
theorem shown_c (w : World) (ad : Addr) (hE : EN w ad) :
    Calls Tryd.prog 9 #[] w fun e W' => e = .returned (.bool true) ∧ Below w.heap.size w W' := by
  have HE := Lib.hid hE
  have LA : Hid (∀ W, EN W ad → Calls Tryd.prog 20 #[.int .i64 9, .string ⟨#[43]⟩] W fun e W' => Below W.heap.size W W' ∧ ∃ q cap, e = .returned (.tuple #[.slice (some ⟨q, 0, none⟩) 1 cap, .int .i64 0]) ∧ NL W' (.slice (some ⟨q, 0, none⟩) 1 cap) [nA]) := Lib.hid (fun W h => (pleaf_c W 9 [43] (by decide) ad h).mono (by rintro e W' ⟨h1, h2⟩; rw [jA] at h2; exact ⟨h1, h2.yes⟩))
  have LB : Hid (∀ W, EN W ad → Calls Tryd.prog 20 #[.int .i64 1, .string ⟨#[49]⟩] W fun e W' => Below W.heap.size W W' ∧ ∃ q cap, e = .returned (.tuple #[.slice (some ⟨q, 0, none⟩) 1 cap, .int .i64 0]) ∧ NL W' (.slice (some ⟨q, 0, none⟩) 1 cap) [nB]) := Lib.hid (fun W h => (pleaf_c W 1 [49] (by decide) ad h).mono (by rintro e W' ⟨h1, h2⟩; rw [jB] at h2; exact ⟨h1, h2.yes⟩))
  have LN : Hid (∀ W, EN W ad → Calls Tryd.prog 20 #[.int .i64 6, .string ⟨#[]⟩] W fun e W' => Below W.heap.size W W' ∧ e = .returned (.tuple #[.slice none 0 0, .int .i64 70])) := Lib.hid (fun W h => (pleaf_c W 6 [] (by decide) ad h).mono (by rintro e W' ⟨h1, h2⟩; rw [jN] at h2; exact ⟨h1, h2.no⟩))
  have JS : Hid (∀ W u, EN W ad → LL W u [[nA], [nB]] → Calls Tryd.prog 23 #[.int .i64 6, .string ⟨#[]⟩, u] W fun e W' => Below W.heap.size W W' ∧ ∃ q cap, e = .returned (.tuple #[.slice (some ⟨q, 0, none⟩) 3 cap, .int .i64 0]) ∧ NL W' (.slice (some ⟨q, 0, none⟩) 3 cap) tS) := Lib.hid (fun W u h hl => (pjoin_c W 6 [] u _ hl (by decide) (by decide) small_a ad h).mono (by rintro e W' ⟨h1, h2⟩; rw [jS] at h2; exact ⟨h1, h2.yes⟩))
  have KS : Hid (∀ W u, EN W ad → NL W u tS → Calls Tryd.prog 25 #[u, .int .i64 1] W fun e W' => Below W.heap.size W W' ∧ ∃ q cap, e = .returned (.tuple #[.slice (some ⟨q, 0, none⟩) 1 cap, .int .i64 0]) ∧ NL W' (.slice (some ⟨q, 0, none⟩) 1 cap) [nB]) := Lib.hid (fun W u h hl => (pkid_c W u tS 1 hl (fun x hx => (small_nd x hx).1) (fun x hx => (small_nd x hx).2) ad h).mono (by rintro e W' ⟨h1, h2⟩; rw [kS] at h2; exact ⟨h1, h2.yes⟩))
  have SS : Hid (∀ W u, NL W u tS → Calls Tryd.prog 13 #[u] W fun e W' => e = .returned (.string ⟨#[40, 54, 58, 32, 57, 58, 43, 32, 49, 58, 49, 41]⟩) ∧ Below W.heap.size W W') := Lib.hid (fun W u hl => by
    have := pshow_c W u tS hl (fun x hx => (small_nd x hx).1) (fun x hx => (small_nd x hx).2)
    rw [sS] at this
    exact this)
  have MS : Hid (∀ W u v, NL W u [nB] → NL W v [nB] → Calls Tryd.prog 18 #[u, v] W fun e W' => e = .returned (.bool true) ∧ Below W.heap.size W W') := Lib.hid (fun W u v h1 h2 => by
    have := rsame_c u v _ _ W h1 h2
    simpa using this)
  have DS : Hid (∀ W u, NL W u tS → Calls Tryd.prog 15 #[u] W fun e W' => e = .returned (.int .i64 2) ∧ Below W.heap.size W W') := Lib.hid (fun W u hl => by
    have := pdeep_c W u tS hl (fun x hx => (small_nd x hx).1)
    rw [dS] at this
    exact this)
  have RS : Hid (∀ W u, NL W u tS → Calls Tryd.prog 11 #[u] W fun e W' => e = .returned (.bool true) ∧ Below W.heap.size W W') := Lib.hid (fun W u hl => by
    have := pright_c W u tS hl (fun x hx => (small_nd x hx).1)
    rw [rS] at this
    exact this)
  clear hE
  go_enter Tryd.func9, Tryd.ntmps9
  go_wp2_with fail
  refine (LA.out w HE.out).mono ?_
  rintro e w1 ⟨hb1, qa, ca, rfl, hA⟩
  have HB1 := Lib.hid hb1
  have HA := Lib.hid hA
  clear hb1 hA
  go_wp2_with fail
  refine (LB.out w1 (HE.out.below HB1.out)).mono ?_
  rintro e w2 ⟨hb2, qb, cb, rfl, hB⟩
  have HB2 := Lib.hid (HB1.out.trans (hb2.mono HB1.out.size))
  have HA2 := Lib.hid (HA.out.below hb2)
  have HBB := Lib.hid hB
  clear hb2 hB
  go_wp2_with fail
  have hal := HB2.out.alloc HB2.out.size (.cells #[.slice (some ⟨qa, 0, none⟩) 1 ca, .slice (some ⟨qb, 0, none⟩) 1 cb] 22)
  refine (JS.out _ _ (HE.out.below hal) (ll_two HA2.out HBB.out)).mono ?_
  rintro e w3 ⟨hb3, qs, cs, rfl, hS⟩
  have HB3 := Lib.hid (hal.trans (hb3.mono hal.size))
  have HS3 := Lib.hid hS
  have HBB3 := Lib.hid ((HBB.out.below ((Below.refl _ w2).alloc (Nat.le_refl _) _)).below hb3)
  clear hal hb3 hS
  go_wp2_with fail
  refine (KS.out w3 _ (HE.out.below HB3.out) HS3.out).mono ?_
  rintro e w4 ⟨hb4, qk, ck, rfl, hK⟩
  have HB4 := Lib.hid (HB3.out.trans (hb4.mono HB3.out.size))
  have HS4 := Lib.hid (HS3.out.below hb4)
  have HBB4 := Lib.hid (HBB3.out.below hb4)
  have HK4 := Lib.hid hK
  clear hb4 hK
  go_wp2_with fail
  refine (LN.out w4 (HE.out.below HB4.out)).mono ?_
  rintro e w5 ⟨hb5, rfl⟩
  have HB5 := Lib.hid (HB4.out.trans (hb5.mono HB4.out.size))
  have HS5 := Lib.hid (HS4.out.below hb5)
  have HBB5 := Lib.hid (HBB4.out.below hb5)
  have HK5 := Lib.hid (HK4.out.below hb5)
  clear hb5
  go_wp2_with fail
  refine (SS.out w5 _ HS5.out).mono ?_
  rintro e w6 ⟨rfl, hb6⟩
  have HB6 := Lib.hid (HB5.out.trans (hb6.mono HB5.out.size))
  have HS6 := Lib.hid (HS5.out.below hb6)
  have HBB6 := Lib.hid (HBB5.out.below hb6)
  have HK6 := Lib.hid (HK5.out.below hb6)
  clear hb6
  go_wp2_with fail
  refine (MS.out w6 _ _ HK6.out HBB6.out).mono ?_
  rintro e w7 ⟨rfl, hb7⟩
  have HB7 := Lib.hid (HB6.out.trans (hb7.mono HB6.out.size))
  have HS7 := Lib.hid (HS6.out.below hb7)
  clear hb7
  go_wp2_with fail
  refine (DS.out w7 _ HS7.out).mono ?_
  rintro e w8 ⟨rfl, hb8⟩
  have HB8 := Lib.hid (HB7.out.trans (hb8.mono HB7.out.size))
  have HS8 := Lib.hid (HS7.out.below hb8)
  clear hb8
  go_wp2_with fail
  refine (RS.out w8 _ HS8.out).mono ?_
  rintro e w9 ⟨rfl, hb9⟩
  have HB9 := Lib.hid (HB8.out.trans (hb9.mono HB8.out.size))
  clear hb9
  go_wp2
  go_ret
  exact ⟨rfl, HB9.out⟩
end Go.Proofs.YtbegplfijjbpcaaDoor.No
