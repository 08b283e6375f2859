/- The program: kids' places are taken from those that are free. -/
import Derived.Test.YtbegplfijjbpcaaDoorNoA
namespace Go.Proofs.YtbegplfijjbpcaaDoor.No
open Go Go.RowKit Go.Shelf
attribute [local go_sem] Oper.semAt_some

def bools (L : List Bool) : Array Value := (L.map Value.bool).toArray
theorem bools_at {L : List Bool} {i : Nat} {b : Bool} (h : L[i]? = some b) : (bools L)[i]? = some (.bool b) := by simp [bools, h]
theorem bools_set (L : List Bool) (i : Nat) (b : Bool) : (bools L).setIfInBounds i (.bool b) = bools (L.set i b) := by
  unfold bools
  rw [List.map_set]
  simp
theorem grown_set (W : World) (g i : Nat) (v : Value) : W.grownBy (W.setCell ⟨g, i, none⟩ v) (some g) :=
  ⟨rfl, rfl, rfl, by simp [World.setCell], fun k _ hk => Below.heap_setCell W ⟨g, i, none⟩ v k (fun e => hk (by rw [e]))⟩
theorem grown_refl (W : World) (r : Option Nat) : W.grownBy W r := ⟨rfl, rfl, rfl, Nat.le_refl _, fun _ _ _ => rfl⟩
theorem grown_drew {W X : World} {r : Option Nat} (h : W.grownBy X r) : W.grownBy X.drew r := ⟨h.os, h.tape, h.output, h.size, h.block⟩
theorem row_grown {X Y : World} {row : Option Nat} {k : Nat} {t : TypeId} {cs : Array Value} (h : Row X k t cs) (hg : X.grownBy Y row) (hne : row ≠ some k) : Row Y k t cs := (hg.block k h.lt (fun e => hne e.symm)).trans h
theorem below_grown {W W' : World} {B : Nat} {w0 : World} (hb : Below B w0 W) (hB : B ≤ W.heap.size) {g : Nat} (hg : W.grownBy W' (some g)) (hl : B ≤ g) : Below B w0 W' := by
  refine ⟨hg.os.trans hb.os, hg.tape.trans hb.tape, hg.output.trans hb.output, Nat.le_trans hb.size hg.size, fun k hk => (hg.block k (by omega) (fun e => ?_)).trans (hb.block k hk)⟩
  injection e with e
  omega
/-- What is free behind some places taken, from one on, ahead of another; or what was free then. -/
def takeF (m : Nat) : Int → List Int → List Bool → Bool × List Bool
  | _, [], L => (true, L)
  | lo, a :: r, L => if lo ≤ a ∧ a < (m : Int) ∧ L[a.toNat]? = some true then takeF m (a + 1) r (L.set a.toNat false) else (false, L)
theorem take_len (m : Nat) : ∀ (A : List Int) (lo : Int) (L : List Bool), (takeF m lo A L).2.length = L.length
  | [], _, _ => rfl
  | a :: r, lo, L => by
    unfold takeF
    split
    · rw [take_len m r _ _, List.length_set]
    · rfl
/-- Of the places A, j are taken. -/
structure TK (m : Nat) (A : List Int) (L : List Bool) (j : Nat) (lo : Int) (M : List Bool) : Prop where
  pos : 0 ≤ lo
  len : M.length = L.length
  ans : takeF m lo (A.drop j) M = takeF m 0 A L
theorem TK.next {m : Nat} {A : List Int} {L : List Bool} {j : Nat} {lo : Int} {M : List Bool} (h : TK m A L j lo M) {a : Int} (ha : A[j]? = some a) (h1 : lo ≤ a) (h2 : a < (m : Int)) (h3 : M[a.toNat]? = some true) : TK m A L (j + 1) (a + 1) (M.set a.toNat false) := by
  have := h.pos
  refine ⟨by omega, by rw [List.length_set, h.len], ?_⟩
  rw [← h.ans, show A.drop j = a :: A.drop (j + 1) from (List.drop_eq_getElem?_toList_append (l := A) (i := j)).trans (by rw [ha]; rfl)]
  show _ = takeF m lo (a :: _) M
  rw [takeF, if_pos ⟨h1, h2, h3⟩]
theorem TK.no {m : Nat} {A : List Int} {L : List Bool} {j : Nat} {lo : Int} {M : List Bool} (h : TK m A L j lo M) {a : Int} (ha : A[j]? = some a) (hn : ¬ (lo ≤ a ∧ a < (m : Int) ∧ M[a.toNat]? = some true)) : takeF m 0 A L = (false, M) := by
  rw [← h.ans, show A.drop j = a :: A.drop (j + 1) from (List.drop_eq_getElem?_toList_append (l := A) (i := j)).trans (by rw [ha]; rfl)]
  show takeF m lo (a :: _) M = _
  rw [takeF, if_neg hn]
theorem TK.done {m : Nat} {A : List Int} {L : List Bool} {lo : Int} {M : List Bool} (h : TK m A L A.length lo M) : takeF m 0 A L = (true, M) := by
  rw [← h.ans, List.drop_length]
  rfl

set_option maxRecDepth 100000 in
set_option maxHeartbeats 8000000 in
/-- take(free, kids). -/
theorem take_c (w0 w : World) (g m cap : Nat) (L : List Bool) (kv : Value) (A : List Int) (hb0 : Below w0.heap.size w0 w) (hg : w0.heap.size ≤ g) (hR : Row w g 4 (bools L)) (hm : m ≤ L.length) (hc : m ≤ cap) (hcap : cap ≤ 1000) (hA : KL w0 kv A) (hA2 : A.length ≤ 1000000) :
    Calls Tryd.prog 48 #[.slice (some ⟨g, 0, none⟩) m cap, kv] w fun e W' => e = .returned (.bool (takeF m 0 A L).1) ∧ Row W' g 4 (bools (takeF m 0 A L).2) ∧ w.grownBy W' (some g) := by
  obtain ⟨a1, c1, rfl, hl1, hl2⟩ := hA.form
  unfold maxLen at hl2
  have HA := Lib.hid hA
  have HB0 := Lib.hid hb0
  have HR := Lib.hid hR
  obtain ⟨n, hn⟩ : ∃ n, n = A.length := ⟨_, rfl⟩
  have HN := Lib.hid hn
  rw [← hn] at hl1 hA2 ⊢
  obtain ⟨R, hRR⟩ : ∃ R, R = takeF m 0 A L := ⟨_, rfl⟩
  have HRR := Lib.hid hRR
  rw [← hRR]
  clear hA hb0 hR hn hRR
  go_enter Tryd.func48, Tryd.ntmps48
  go_wp2
  go_loopw [5, 10] (fun lo i wr => ∃ (j : Nat) (l : Int) (M : List Bool), j ≤ n ∧ i = .int .i64 j ∧ lo = .int .i64 l ∧ l ≤ (m : Int) ∧ TK m A L j l M ∧ Row wr g 4 (bools M) ∧ w.grownBy wr (some g)) (fun _ i _ => n - (intOf i).toNat)
  case atStart => exact ⟨0, 0, L, Nat.zero_le _, rfl, rfl, by omega, ⟨by omega, rfl, rfl⟩, HR.out, grown_refl _ _⟩
  case round =>
    obtain ⟨j, l, M, hj, rfl, rfl, hlm, hT, hR2, hG⟩ := hrel
    have HT := Lib.hid hT
    have HR2 := Lib.hid hR2
    have HG := Lib.hid hG
    have hl0 := hT.pos
    by_cases hlt : j < n
    · obtain ⟨gk, ok, ck, hv, hgk, hck⟩ := HA.out.cells (by rw [← HN.out]; omega)
      rw [← HN.out] at hv
      obtain rfl : a1 = some ⟨gk, ok, none⟩ := by injection hv
      obtain ⟨a, ha⟩ : ∃ a, A[j]? = some a := ⟨_, List.getElem?_eq_getElem (by rw [← HN.out]; exact hlt)⟩
      have hBW := below_grown HB0.out HB0.out.size hG hg
      have e1 := (hBW.cell (p := ⟨gk, ok + j, none⟩) hgk).trans (hck j a ha)
      have HAA := Lib.hid ha
      clear hv hgk hck ha hBW hT hR2 hG
      by_cases h1 : a < l
      · have HNO : Hid (R = (false, M)) := Lib.hid (HRR.out.trans (HT.out.no HAA.out (by omega)))
        go_wp2
        go_ret
        exact ⟨by rw [HNO.out]; rfl, by rw [HNO.out]; exact HR2.out, HG.out⟩
      · by_cases h2 : (m : Int) ≤ a
        · have HNO : Hid (R = (false, M)) := Lib.hid (HRR.out.trans (HT.out.no HAA.out (by omega)))
          go_wp2
          go_ret
          exact ⟨by rw [HNO.out]; rfl, by rw [HNO.out]; exact HR2.out, HG.out⟩
        · obtain ⟨q, rfl⟩ : ∃ q : Nat, a = (q : Int) := ⟨a.toNat, by omega⟩
          have hqm : q < m := by omega
          obtain ⟨b, hb⟩ : ∃ b, M[q]? = some b := ⟨_, List.getElem?_eq_getElem (by rw [HT.out.len]; omega)⟩
          have e2 : wr.cell? ⟨g, q, none⟩ = some (.bool b) := (HR2.out.cell q).trans (bools_at hb)
          have f2 : wr.frozen? ⟨g, q, none⟩ = false := HR2.out.frozen q
          have HBB := Lib.hid hb
          clear hb
          cases b with
          | false =>
            have HNO : Hid (R = (false, M)) := Lib.hid (HRR.out.trans (HT.out.no HAA.out (fun h => by
              have := h.2.2
              rw [Int.toNat_natCast, HBB.out] at this
              cases this)))
            go_wp2
            go_ret
            exact ⟨by rw [HNO.out]; rfl, by rw [HNO.out]; exact HR2.out, HG.out⟩
          | true =>
            have HNX : Hid (TK m A L (j + 1) ((q : Int) + 1) (M.set q false) ∧ Row (wr.setCell ⟨g, q, none⟩ (.bool false)) g 4 (bools (M.set q false)) ∧ w.grownBy (wr.setCell ⟨g, q, none⟩ (.bool false)) (some g)) := Lib.hid ⟨by
              have := HT.out.next HAA.out (by omega) (by omega) (by rw [Int.toNat_natCast]; exact HBB.out)
              rw [Int.toNat_natCast] at this
              exact this, by
              have := HR2.out.set q (.bool false)
              rw [bools_set] at this
              exact this, HG.out.trans (grown_set _ _ _ _)⟩
            go_wp2
            go_roundw
            case rel => exact ⟨j + 1, (q : Int) + 1, M.set q false, by omega, by go_num, by go_num, by omega, HNX.out.1, HNX.out.2.1, HNX.out.2.2⟩
            case measure => simp [intOf]; omega
    · obtain rfl : j = n := by omega
      have HDN : Hid (R = (true, M)) := Lib.hid (HRR.out.trans (by
        have := HT.out
        rw [HN.out] at this
        exact this.done))
      clear hT hR2 hG
      go_wp2
      go_ret
      exact ⟨by rw [HDN.out]; rfl, by rw [HDN.out]; exact HR2.out, HG.out⟩
end Go.Proofs.YtbegplfijjbpcaaDoor.No
