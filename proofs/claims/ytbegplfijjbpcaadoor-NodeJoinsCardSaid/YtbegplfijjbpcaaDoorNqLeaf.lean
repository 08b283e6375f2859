/- The program: Leaf and Join. -/
import Derived.Test.YtbegplfijjbpcaaDoorNqJoin
import Derived.Test.YtbegplfijjbpcaaDoorNqErr
namespace Go.Proofs.YtbegplfijjbpcaaDoor.No
open Go Go.RowKit Go.Shelf
attribute [local go_sem] Oper.semAt_some

/-- WHAT A BUILDER OF TREES ANSWERS. -/
def OUT (w W' : World) (e : Ending) (A : List Nd × Nat) : Prop :=
  (∃ bb q r cap total L u, e = .returned (.tuple #[.slice (some ⟨q, 0, none⟩) L.length cap, .int .i64 0]) ∧ BD W' w.heap.size bb q r cap total L u ∧ A = (L.map (·.1), 0)) ∨ (A = ([], 70) ∧ e = .returned (.tuple #[.slice none 0 0, .int .i64 70]))
theorem OUT.told {w W' : World} {e : Ending} {A : List Nd × Nat} (h : OUT w W' e A) : ∃ v, e = .returned (.tuple #[v, .int .i64 (A.2 : Int)]) ∧ NL W' v A.1 := by
  rcases h with ⟨bb, q, r, cap, total, L, u, rfl, hB, rfl⟩ | ⟨rfl, rfl⟩
  · exact ⟨_, rfl, hB.nl⟩
  · exact ⟨_, rfl, ⟨⟨none, 0, rfl, Nat.le_refl _, Nat.zero_le _⟩, fun h => by simp at h⟩⟩
set_option maxRecDepth 100000 in
set_option maxHeartbeats 2000000 in
/-- pleaf_c. -/
theorem pleaf_c (w : World) (kind : Int) (text : List UInt8) (htx : text.length ≤ 10000000) (ad : Addr) (hE : EN w ad) :
    Calls Tryd.prog 20 #[.int .i64 kind, .string (bs text)] w fun e W' => Below w.heap.size w W' ∧ OUT w W' e (joinA kind text []) := by
  have HJ := Lib.hid (join_c w kind text _ [] (LL.nil w) (Nat.zero_le _) htx (fun _ h => by cases h))
  have HE := Lib.hid hE
  clear htx hE
  go_enter Tryd.func20, Tryd.ntmps20
  go_wp2_with fail
  refine HJ.out.mono ?_
  rintro e w1 ⟨hb1, ⟨bb, q, r, cap, total, L, u, rfl, hB, hA⟩ | ⟨hA, p, s, rfl⟩⟩
  · have HB1 := Lib.hid hb1
    have HBD := Lib.hid hB
    have HA := Lib.hid hA
    obtain ⟨nl, hnl⟩ : ∃ x, x = L.length := ⟨_, rfl⟩
    rw [← hnl]
    have HNL := Lib.hid hnl
    clear hb1 hB hA hnl
    go_wp2_with (go_at_call 40; refine (number_nil ad w1 (HE.out.below HB1.out)).mono ?_; rintro e w2 ⟨rfl, hb2⟩; have HB2 := Lib.hid hb2; clear hb2)
    refine bodyPost_ret (v := .tuple #[.slice (some ⟨q, 0, none⟩) nl cap, .int .i64 0]) (by simp [results, Tryd.f20, go_sem]) rfl ⟨HB1.out.trans (HB2.out.mono HB1.out.size), .inl ⟨bb, q, r, cap, total, L, u, by rw [HNL.out], HBD.out.below HB2.out, HA.out⟩⟩
  · have HB1 := Lib.hid hb1
    have HA := Lib.hid hA
    clear hb1 hA
    unfold wrongV
    go_wp2_with (go_at_call 40; refine (number_wrong p s ad w1 (HE.out.below HB1.out)).mono ?_; rintro e w2 ⟨rfl, hb2⟩; have HB2 := Lib.hid hb2; clear hb2)
    refine bodyPost_ret (v := .tuple #[.slice none 0 0, .int .i64 70]) (by simp [results, Tryd.f20, go_sem]) rfl ⟨HB1.out.trans (HB2.out.mono HB1.out.size), .inr ⟨HA.out, rfl⟩⟩

set_option maxRecDepth 100000 in
set_option maxHeartbeats 2000000 in
/-- pjoin_c. -/
theorem pjoin_c (w : World) (kind : Int) (text : List UInt8) (v : Value) (KS : List (List Nd)) (hv : LL w v KS) (hKS : KS.length ≤ 1000) (htx : text.length ≤ 10000000) (hkk : ∀ K ∈ KS, ∀ x ∈ K, x.kids.length ≤ 1000000 ∧ x.text.length ≤ 10000000) (ad : Addr) (hE : EN w ad) :
    Calls Tryd.prog 23 #[.int .i64 kind, .string (bs text), v] w fun e W' => Below w.heap.size w W' ∧ OUT w W' e (joinA kind text KS) := by
  have HJ := Lib.hid (join_c w kind text v KS hv hKS htx hkk)
  have HE := Lib.hid hE
  obtain ⟨a0, c0, rfl, _, _⟩ := hv.form
  clear hv hKS htx hkk hE
  go_enter Tryd.func23, Tryd.ntmps23
  go_wp2_with fail
  refine HJ.out.mono ?_
  rintro e w1 ⟨hb1, ⟨bb, q, r, cap, total, L, u, rfl, hB, hA⟩ | ⟨hA, p, s, rfl⟩⟩
  · have HB1 := Lib.hid hb1
    have HBD := Lib.hid hB
    have HA := Lib.hid hA
    obtain ⟨nl, hnl⟩ : ∃ x, x = L.length := ⟨_, rfl⟩
    rw [← hnl]
    have HNL := Lib.hid hnl
    clear hb1 hB hA hnl
    go_wp2_with (go_at_call 40; refine (number_nil ad w1 (HE.out.below HB1.out)).mono ?_; rintro e w2 ⟨rfl, hb2⟩; have HB2 := Lib.hid hb2; clear hb2)
    refine bodyPost_ret (v := .tuple #[.slice (some ⟨q, 0, none⟩) nl cap, .int .i64 0]) (by simp [results, Tryd.f23, go_sem]) rfl ⟨HB1.out.trans (HB2.out.mono HB1.out.size), .inl ⟨bb, q, r, cap, total, L, u, by rw [HNL.out], HBD.out.below HB2.out, HA.out⟩⟩
  · have HB1 := Lib.hid hb1
    have HA := Lib.hid hA
    clear hb1 hA
    unfold wrongV
    go_wp2_with (go_at_call 40; refine (number_wrong p s ad w1 (HE.out.below HB1.out)).mono ?_; rintro e w2 ⟨rfl, hb2⟩; have HB2 := Lib.hid hb2; clear hb2)
    refine bodyPost_ret (v := .tuple #[.slice none 0 0, .int .i64 70]) (by simp [results, Tryd.f23, go_sem]) rfl ⟨HB1.out.trans (HB2.out.mono HB1.out.size), .inr ⟨HA.out, rfl⟩⟩

end Go.Proofs.YtbegplfijjbpcaaDoor.No
