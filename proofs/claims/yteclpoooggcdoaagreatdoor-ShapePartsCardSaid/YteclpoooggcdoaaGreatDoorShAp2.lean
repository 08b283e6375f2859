/- shape's apply (by wip/gen/mkshap.py). -/
import Derived.Test.YteclpoooggcdoaaGreatDoorShF
import Derived.Test.YteclpoooggcdoaaGreatDoorShB
import Derived.ScopeJumps
import Derived.Laws.BitsLemmas
namespace Go.Proofs.YteclpoooggcdoaaGreatDoor.Ar
open Go Go.RowKit Go.Shelf
attribute [local go_sem] Oper.semAt_some

def dov2 (F : Option Nat) : Value := match F with
  | some f => fnS f
  | none => .nilFunc
/-- What apply tells. -/
def ApOut2 (g : ByteArray) (c : Int) (r : Ary) (w : World) (e : Ending) (w' : World) : Prop := Below w.heap.size w w' ∧
  ((c = 0 ∧ ∃ v, e = .returned (.tuple #[aryV r v, .nilIface]) ∧ KL w' v r.n) ∨ (c ≠ 0 ∧ e = .returned (.tuple #[.agg #[.bool false, .bool false, .slice none 0 0], sh_wrongV g (sh_faultV c)])))
set_option maxRecDepth 100000 in
set_option maxHeartbeats 8000000 in
theorem apply2_c (g : ByteArray) (a b : Ary) (s t : Value) (F : Option Nat) (E : Int) (A : Ary) (k : Nat) (w : World) (hs : KL w s a.n) (ht : KL w t b.n) (hi : InL a.n) (hj : InL b.n) (hr : Row w k 24 #[.bool a.list, .bool a.runes, s, .bool b.list, .bool b.runes, t])
    (hF : (∀ f, F = some f → (∀ args w, (callFunc f args).run Tryz.prog w = .ok (.enter f args) w) ∧ ((rightA a && rightA b) = true → ∀ W, Below w.heap.size w W → Calls Tryz.prog f #[pairV a b s t] W fun e w' => MkOut E A W e w'))) :
    Calls Tryz.prog 30 #[.string g, dov2 F, .slice (some ⟨k, 0, none⟩) 2 2] w fun e w' => ApOut2 g (if (rightA a && rightA b) then (if F = none then 102 else E) else 114) A w e w' := by
  obtain ⟨w1, hw1⟩ : ∃ w1, w1 = w.alloc (.cells #[.bool false, .bool false, .slice none 0 0] 24) := ⟨_, rfl⟩
  have hb1 : Below w.heap.size w w1 := by rw [hw1]; exact (Below.refl _ _).alloc (Nat.le_refl _) _
  have r1 : Row w1 w.heap.size 24 #[.bool false, .bool false, .slice none 0 0] := by rw [hw1]; exact Row.new _ _ _
  have hkw := hr.lt
  have hall := sall_c k 0 2 [a, b] w1 (srow_two (hr.below hb1 hkw) (hs.below hb1) (ht.below hb1) hi hj) (by simp)
  obtain ⟨al, hal⟩ : ∃ al : Bool, al = (rightA a && rightA b) := ⟨_, rfl⟩
  have hal2 : List.all [a, b] rightA = al := by rw [hal]; simp
  rw [hal2] at hall
  rw [← hal] at hF ⊢
  obtain ⟨cE, hcE⟩ : ∃ c : Int, c = (if al = true then (if F = none then 102 else E) else 114) := ⟨_, rfl⟩
  rw [← hcE]
  rw [hw1] at hall
  have HALL := Lib.hid hall
  have HCE := Lib.hid hcE
  have HW1 := Lib.hid hw1
  have HB1 := Lib.hid hb1
  have HR1 := Lib.hid r1
  have HIR : Hid (∀ W, Below w.heap.size w W → Row W k 24 #[.bool a.list, .bool a.runes, s, .bool b.list, .bool b.runes, t]) := Lib.hid (fun W h => hr.below h hkw)
  obtain ⟨aL, aR, aN⟩ := a
  obtain ⟨bL, bR, bN⟩ := b
  dsimp only [pairV] at *
  obtain ⟨sa, sc, hsf, -, -⟩ := hs.form
  obtain ⟨sn, hsn⟩ : ∃ sn, sn = aN.length := ⟨_, rfl⟩
  rw [← hsn] at hsf
  subst hsf
  obtain ⟨ta, tc, htf, -, -⟩ := ht.form
  obtain ⟨tn, htn⟩ : ∃ tn, tn = bN.length := ⟨_, rfl⟩
  rw [← htn] at htf
  subst htf
  have HF := Lib.hid hF
  clear hs hi hsn ht hj htn hr hall hal hal2 hcE hw1 hb1 r1 hF
  cases al
  · have HC9 : Hid (cE = 114) := Lib.hid HCE.out
    have HCN : Hid (cE ≠ 0) := Lib.hid (by rw [HC9.out]; decide)
    go_enter Tryz.func30, Tryz.ntmps30
    go_wp2_with fail
    refine wp_scope_jumps 0 (fun a' W => ∃ (c : Int) (u1 u2 u3 u4 u5 u8 u9 u10 u11 u12 u13 u14 u15 u16 u17 u18 u19 u20 u21 u22 u23 u24 u25 u26 u27 u28 u29 u30 u31 u32 u33 u34 u35 u36 u37 : Value), c = cE ∧ c ≠ 0 ∧ a' = { tmps := #[.string g, u1, u2, u3, u4, u5, .pointer (some ⟨w.heap.size, 0, none⟩), sh_faultV c, u8, u9, u10, u11, u12, u13, u14, u15, u16, u17, u18, u19, u20, u21, u22, u23, u24, u25, u26, u27, u28, u29, u30, u31, u32, u33, u34, u35, u36, u37], defers := [] } ∧ Below w.heap.size w W ∧ Row W w.heap.size 24 #[.bool false, .bool false, .slice none 0 0]) (fun _ _ => 0) rfl ?first ?pass
    case first =>
      go_wp2_with (go_at_call 46; refine HALL.out.mono ?_; rintro e w3 ⟨rfl, hb⟩; rw [← HW1.out] at hb; have HB3 := Lib.hid hb; have hq := seq_nil w3; clear hb)
      refine wp_goto ?_
      exact ⟨rfl, 114, _, _, _, _, _, _, _, _, _, _, _, _, _, _, _, _, _, _, _, _, _, _, _, _, _, _, _, _, _, _, _, _, _, _, _, HC9.out.symm, by decide, rfl, HB1.out.trans (HB3.out.mono HB1.out.size), HR1.out.below HB3.out HR1.out.lt⟩
    case pass =>
      rintro a' W ⟨c, u1, u2, u3, u4, u5, u8, u9, u10, u11, u12, u13, u14, u15, u16, u17, u18, u19, u20, u21, u22, u23, u24, u25, u26, u27, u28, u29, u30, u31, u32, u33, u34, u35, u36, u37, hc, hcn, rfl, hbW, hrW⟩
      obtain ⟨d0, d1, d2, f0, f1, f2⟩ := srow3 hrW
      have HC := Lib.hid hc
      have HF9 := Lib.hid (fin_of hbW (Nat.le_refl _) hrW (.bool false) (.bool false) (.slice none 0 0))
      clear hc hbW hrW
      go_wp2
      refine bodyPost_ret (v := .tuple #[.agg #[.bool false, .bool false, .slice none 0 0], sh_wrongV g (sh_faultV c)]) (by simp [results, Tryz.f30, go_sem, HF9.out.c0, HF9.out.c1, HF9.out.c2]) rfl ⟨HF9.out.below, .inr ⟨HCN.out, by rw [HC.out]⟩⟩
  · rcases F with _ | f
    · have HC9 : Hid (cE = 102) := Lib.hid HCE.out
      have HCN : Hid (cE ≠ 0) := Lib.hid (by rw [HC9.out]; decide)
      show Calls Tryz.prog 30 #[.string g, .nilFunc, .slice (some ⟨k, 0, none⟩) 2 2] w fun e w' => ApOut2 g cE A w e w'
      go_enter Tryz.func30, Tryz.ntmps30
      go_wp2_with fail
      refine wp_scope_jumps 0 (fun a' W => ∃ (c : Int) (u1 u2 u3 u4 u5 u8 u9 u10 u11 u12 u13 u14 u15 u16 u17 u18 u19 u20 u21 u22 u23 u24 u25 u26 u27 u28 u29 u30 u31 u32 u33 u34 u35 u36 u37 : Value), c = cE ∧ c ≠ 0 ∧ a' = { tmps := #[.string g, u1, u2, u3, u4, u5, .pointer (some ⟨w.heap.size, 0, none⟩), sh_faultV c, u8, u9, u10, u11, u12, u13, u14, u15, u16, u17, u18, u19, u20, u21, u22, u23, u24, u25, u26, u27, u28, u29, u30, u31, u32, u33, u34, u35, u36, u37], defers := [] } ∧ Below w.heap.size w W ∧ Row W w.heap.size 24 #[.bool false, .bool false, .slice none 0 0]) (fun _ _ => 0) rfl ?first ?pass
      case first =>
        go_wp2_with (go_at_call 46; refine HALL.out.mono ?_; rintro e w3 ⟨rfl, hb⟩; rw [← HW1.out] at hb; have HB3 := Lib.hid hb; have hq := seq_nil w3; clear hb)
        refine wp_goto ?_
        exact ⟨rfl, 102, _, _, _, _, _, _, _, _, _, _, _, _, _, _, _, _, _, _, _, _, _, _, _, _, _, _, _, _, _, _, _, _, _, _, _, HC9.out.symm, by decide, rfl, HB1.out.trans (HB3.out.mono HB1.out.size), HR1.out.below HB3.out HR1.out.lt⟩
      case pass =>
        rintro a' W ⟨c, u1, u2, u3, u4, u5, u8, u9, u10, u11, u12, u13, u14, u15, u16, u17, u18, u19, u20, u21, u22, u23, u24, u25, u26, u27, u28, u29, u30, u31, u32, u33, u34, u35, u36, u37, hc, hcn, rfl, hbW, hrW⟩
        obtain ⟨d0, d1, d2, f0, f1, f2⟩ := srow3 hrW
        have HC := Lib.hid hc
        have HF9 := Lib.hid (fin_of hbW (Nat.le_refl _) hrW (.bool false) (.bool false) (.slice none 0 0))
        clear hc hbW hrW
        go_wp2
        refine bodyPost_ret (v := .tuple #[.agg #[.bool false, .bool false, .slice none 0 0], sh_wrongV g (sh_faultV c)]) (by simp [results, Tryz.f30, go_sem, HF9.out.c0, HF9.out.c1, HF9.out.c2]) rfl ⟨HF9.out.below, .inr ⟨HCN.out, by rw [HC.out]⟩⟩
    · have HCE2 : Hid (cE = E) := Lib.hid HCE.out
      have heF := (HF.out f rfl).1
      have HCF := Lib.hid ((HF.out f rfl).2 rfl)
      have hib : ∀ W, Below w1.heap.size w1 W → IB w [w.heap.size] [(k, 24, #[.bool aL, .bool aR, .slice sa sn sc, .bool bL, .bool bR, .slice ta tn tc])] W := fun W h => ⟨HB1.out.trans (h.mono HB1.out.size), fun h' hh => by
        obtain rfl : h' = w.heap.size := by simpa using hh
        exact ⟨Nat.le_refl _, _, _, _, _, _, HR1.out.below h HR1.out.lt⟩, fun r hr => by
        obtain rfl : r = _ := by simpa using hr
        exact HIR.out W (HB1.out.trans (h.mono HB1.out.size))⟩
      have HIBW := Lib.hid hib
      clear hib HF
      show Calls Tryz.prog 30 #[.string g, fnS f, .slice (some ⟨k, 0, none⟩) 2 2] w fun e w' => ApOut2 g cE A w e w'
      by_cases hE : E = 0
      · obtain ⟨AL, AR, AN⟩ := A
        go_enter Tryz.func30, Tryz.ntmps30
        go_wp2_with fail
        refine wp_scope_jumps 0 (fun a' W => ∃ (c : Int) (u1 u2 u3 u4 u5 u8 u9 u10 u11 u12 u13 u14 u15 u16 u17 u18 u19 u20 u21 u22 u23 u24 u25 u26 u27 u28 u29 u30 u31 u32 u33 u34 u35 u36 u37 : Value), c = cE ∧ c ≠ 0 ∧ a' = { tmps := #[.string g, u1, u2, u3, u4, u5, .pointer (some ⟨w.heap.size, 0, none⟩), sh_faultV c, u8, u9, u10, u11, u12, u13, u14, u15, u16, u17, u18, u19, u20, u21, u22, u23, u24, u25, u26, u27, u28, u29, u30, u31, u32, u33, u34, u35, u36, u37], defers := [] } ∧ Below w.heap.size w W ∧ Row W w.heap.size 24 #[.bool false, .bool false, .slice none 0 0]) (fun _ _ => 0) rfl ?first ?pass
        case first =>
          go_wp2_with (go_at_call 46; refine HALL.out.mono ?_; rintro e w3 ⟨rfl, hb⟩; rw [← HW1.out] at hb; have HB3 := Lib.hid hb; have hq := seq_fn f w3; clear hb)
          have HIB := Lib.hid (HIBW.out w3 HB3.out)
          refine (wpIn_wide (n := 9)).1 ?_
          refine wpIn_region_putI (by kernel_rfl) (by kernel_rfl) [15] (fun z => if z = 15 then 13 else 0) (fun z => if z = 15 then 13 else 0) (fun j => keepK ([.val (fnS f), .val (.slice (some ⟨k, 0, none⟩) 2 2), .val (.pointer (some ⟨k, 0, none⟩)), .val (.agg #[.bool aL, .bool aR, .slice sa sn sc]), .val (.slice (some ⟨k, 0, none⟩) 2 2), .val (.slice (some ⟨k, 0, none⟩) 2 2), .val (.int .i64 2), .val (.int .i64 1), .val (.pointer (some ⟨k, 3, none⟩)), .val (.agg #[.bool bL, .bool bR, .slice ta tn tc]), .val (.agg #[.bool aL, .bool aR, .slice sa sn sc, .bool bL, .bool bR, .slice ta tn tc]), .sl ((fun s => .tuple #[.agg #[.bool AL, .bool AR, s], .nilIface])) (AN), .sl ((fun s => .tuple #[.agg #[.bool AL, .bool AR, s], .nilIface])) (AN), .sl ((fun s => .agg #[.bool AL, .bool AR, s])) (AN), .val (.nilIface), .any, .val (.nilIface)].getD j .any)) (by decide) (IB w [w.heap.size] [(k, 24, #[.bool aL, .bool aR, .slice sa sn sc, .bool bL, .bool bR, .slice ta tn tc])]) (fun i => PhS ([.val (fnS f), .val (.slice (some ⟨k, 0, none⟩) 2 2), .val (.pointer (some ⟨k, 0, none⟩)), .val (.agg #[.bool aL, .bool aR, .slice sa sn sc]), .val (.slice (some ⟨k, 0, none⟩) 2 2), .val (.slice (some ⟨k, 0, none⟩) 2 2), .val (.int .i64 2), .val (.int .i64 1), .val (.pointer (some ⟨k, 3, none⟩)), .val (.agg #[.bool bL, .bool bR, .slice ta tn tc]), .val (.agg #[.bool aL, .bool aR, .slice sa sn sc, .bool bL, .bool bR, .slice ta tn tc]), .sl ((fun s => .tuple #[.agg #[.bool AL, .bool AR, s], .nilIface])) (AN), .sl ((fun s => .tuple #[.agg #[.bool AL, .bool AR, s], .nilIface])) (AN), .sl ((fun s => .agg #[.bool AL, .bool AR, s])) (AN), .val (.nilIface), .any, .val (.nilIface)].getD i .any)) (fun z u v => StS (.pointer (some ⟨w.heap.size, 0, none⟩)) v) (fun W W' hb h => h.below hb) (fun i v W W' hb h => PhS.below hb h) (fun i u v W W' hb h => StS.below hb h) (HIB.out.below (Below.refl _ _).drew) ?_ ?_ ?_
          · intro i oo listed a' W val ho hi hnz haf hS hIW hF
            have hi' : i < 17 := hi
            obtain rfl | rfl | rfl | rfl | rfl | rfl | rfl | rfl | rfl | rfl | rfl | rfl | rfl | rfl | rfl | rfl | rfl : i = 0 ∨ i = 1 ∨ i = 2 ∨ i = 3 ∨ i = 4 ∨ i = 5 ∨ i = 6 ∨ i = 7 ∨ i = 8 ∨ i = 9 ∨ i = 10 ∨ i = 11 ∨ i = 12 ∨ i = 13 ∨ i = 14 ∨ i = 15 ∨ i = 16 := by omega
            · cases ho
              refine opG_plain rfl rfl ?_
              have q1 : a'.tmps[1]? = some (fnS f) := (hS.tmpBase 1 (by kernel_rfl)).trans rfl
              refine op_valv (fnS f) W (fun _ _ => trivial) ?_ ⟨Below.refl _ _, rfl⟩
              rw [Oper.semAt_plain _ _ _ (by intro c h; cases h)]
              simp [execOp, q1, go_sem]
            · cases ho
              refine opG_plain rfl rfl ?_
              have q2 : a'.tmps[2]? = some (.slice (some ⟨k, 0, none⟩) 2 2) := (hS.tmpBase 2 (by kernel_rfl)).trans rfl
              refine op_valv (.slice (some ⟨k, 0, none⟩) 2 2) W (fun _ _ => trivial) ?_ ⟨Below.refl _ _, rfl⟩
              rw [Oper.semAt_plain _ _ _ (by intro c h; cases h)]
              simp [execOp, q2, go_sem]
            · cases ho
              refine opG_plain rfl rfl ?_
              have l1 : listed.getD 1 false = true := haf ⟨1, .data⟩ (Array.mem_of_getElem? (i := 0) rfl) rfl
              have q17 : a'.tmps[17]? = some (val 1) := hS.tmpSet 1 _ 17 rfl rfl (by simp) l1
              have h1 : PhS (.val (.slice (some ⟨k, 0, none⟩) 2 2)) (val 1) W := hF 1 l1 rfl
              rw [show val 1 = .slice (some ⟨k, 0, none⟩) 2 2 from h1] at q17
              refine op_valv (.pointer (some ⟨k, 0, none⟩)) W (fun _ _ => trivial) ?_ ⟨Below.refl _ _, rfl⟩
              rw [Oper.semAt_plain _ _ _ (by intro c h; cases h)]
              simp [execOp, q17, go_sem]
            · cases ho
              refine opG_plain rfl rfl ?_
              have l2 : listed.getD 2 false = true := haf ⟨2, .data⟩ (Array.mem_of_getElem? (i := 0) rfl) rfl
              have q18 : a'.tmps[18]? = some (val 2) := hS.tmpSet 2 _ 18 rfl rfl (by simp) l2
              have h2 : PhS (.val (.pointer (some ⟨k, 0, none⟩))) (val 2) W := hF 2 l2 rfl
              rw [show val 2 = .pointer (some ⟨k, 0, none⟩) from h2] at q18
              have hr := hIW.2.2 _ (List.mem_of_getElem? (i := 0) rfl)
              obtain ⟨z0, z1, z2, z3, z4, z5⟩ := srow6 hr
              refine op_valv (.agg #[.bool aL, .bool aR, .slice sa sn sc]) W (fun _ _ => trivial) ?_ ⟨Below.refl _ _, rfl⟩
              rw [Oper.semAt_plain _ _ _ (by intro c h; cases h)]
              simp [execOp, q18, z0, z1, z2, go_sem]
            · cases ho
              refine opG_plain rfl rfl ?_
              have q2 : a'.tmps[2]? = some (.slice (some ⟨k, 0, none⟩) 2 2) := (hS.tmpBase 2 (by kernel_rfl)).trans rfl
              refine op_valv (.slice (some ⟨k, 0, none⟩) 2 2) W (fun _ _ => trivial) ?_ ⟨Below.refl _ _, rfl⟩
              rw [Oper.semAt_plain _ _ _ (by intro c h; cases h)]
              simp [execOp, q2, go_sem]
            · cases ho
              refine opG_plain rfl rfl ?_
              have q2 : a'.tmps[2]? = some (.slice (some ⟨k, 0, none⟩) 2 2) := (hS.tmpBase 2 (by kernel_rfl)).trans rfl
              refine op_valv (.slice (some ⟨k, 0, none⟩) 2 2) W (fun _ _ => trivial) ?_ ⟨Below.refl _ _, rfl⟩
              rw [Oper.semAt_plain _ _ _ (by intro c h; cases h)]
              simp [execOp, q2, go_sem]
            · cases ho
              refine opG_plain rfl rfl ?_
              have l5 : listed.getD 5 false = true := haf ⟨5, .data⟩ (Array.mem_of_getElem? (i := 0) rfl) rfl
              have q21 : a'.tmps[21]? = some (val 5) := hS.tmpSet 5 _ 21 rfl rfl (by simp) l5
              have h5 : PhS (.val (.slice (some ⟨k, 0, none⟩) 2 2)) (val 5) W := hF 5 l5 rfl
              rw [show val 5 = .slice (some ⟨k, 0, none⟩) 2 2 from h5] at q21
              refine op_valv (.int .i64 2) W (fun _ _ => trivial) ?_ ⟨Below.refl _ _, rfl⟩
              rw [Oper.semAt_plain _ _ _ (by intro c h; cases h)]
              simp [execOp, q21, go_sem]
            · cases ho
              refine opG_plain rfl rfl ?_
              have l6 : listed.getD 6 false = true := haf ⟨6, .data⟩ (Array.mem_of_getElem? (i := 0) rfl) rfl
              have q22 : a'.tmps[22]? = some (val 6) := hS.tmpSet 6 _ 22 rfl rfl (by simp) l6
              have h6 : PhS (.val (.int .i64 2)) (val 6) W := hF 6 l6 rfl
              rw [show val 6 = .int .i64 2 from h6] at q22
              refine op_valv (.int .i64 1) W (fun _ _ => trivial) ?_ ⟨Below.refl _ _, rfl⟩
              rw [Oper.semAt_plain _ _ _ (by intro c h; cases h)]
              simp [execOp, q22, show IntKind.i64.wrap 1 = 1 from by decide, go_sem]
            · cases ho
              refine opG_plain rfl rfl ?_
              have l4 : listed.getD 4 false = true := haf ⟨4, .data⟩ (Array.mem_of_getElem? (i := 0) rfl) rfl
              have q20 : a'.tmps[20]? = some (val 4) := hS.tmpSet 4 _ 20 rfl rfl (by simp) l4
              have h4 : PhS (.val (.slice (some ⟨k, 0, none⟩) 2 2)) (val 4) W := hF 4 l4 rfl
              rw [show val 4 = .slice (some ⟨k, 0, none⟩) 2 2 from h4] at q20
              have l7 : listed.getD 7 false = true := haf ⟨7, .data⟩ (Array.mem_of_getElem? (i := 1) rfl) rfl
              have q23 : a'.tmps[23]? = some (val 7) := hS.tmpSet 7 _ 23 rfl rfl (by simp) l7
              have h7 : PhS (.val (.int .i64 1)) (val 7) W := hF 7 l7 rfl
              rw [show val 7 = .int .i64 1 from h7] at q23
              refine op_valv (.pointer (some ⟨k, 3, none⟩)) W (fun _ _ => trivial) ?_ ⟨Below.refl _ _, rfl⟩
              rw [Oper.semAt_plain _ _ _ (by intro c h; cases h)]
              simp [execOp, q20, q23, go_sem]
            · cases ho
              refine opG_plain rfl rfl ?_
              have l8 : listed.getD 8 false = true := haf ⟨8, .data⟩ (Array.mem_of_getElem? (i := 0) rfl) rfl
              have q24 : a'.tmps[24]? = some (val 8) := hS.tmpSet 8 _ 24 rfl rfl (by simp) l8
              have h8 : PhS (.val (.pointer (some ⟨k, 3, none⟩))) (val 8) W := hF 8 l8 rfl
              rw [show val 8 = .pointer (some ⟨k, 3, none⟩) from h8] at q24
              have hr := hIW.2.2 _ (List.mem_of_getElem? (i := 0) rfl)
              obtain ⟨z0, z1, z2, z3, z4, z5⟩ := srow6 hr
              refine op_valv (.agg #[.bool bL, .bool bR, .slice ta tn tc]) W (fun _ _ => trivial) ?_ ⟨Below.refl _ _, rfl⟩
              rw [Oper.semAt_plain _ _ _ (by intro c h; cases h)]
              simp [execOp, q24, z3, z4, z5, go_sem]
            · cases ho
              refine opG_plain rfl rfl ?_
              have l3 : listed.getD 3 false = true := haf ⟨3, .data⟩ (Array.mem_of_getElem? (i := 0) rfl) rfl
              have q19 : a'.tmps[19]? = some (val 3) := hS.tmpSet 3 _ 19 rfl rfl (by simp) l3
              have h3 : PhS (.val (.agg #[.bool aL, .bool aR, .slice sa sn sc])) (val 3) W := hF 3 l3 rfl
              rw [show val 3 = .agg #[.bool aL, .bool aR, .slice sa sn sc] from h3] at q19
              have l9 : listed.getD 9 false = true := haf ⟨9, .data⟩ (Array.mem_of_getElem? (i := 1) rfl) rfl
              have q25 : a'.tmps[25]? = some (val 9) := hS.tmpSet 9 _ 25 rfl rfl (by simp) l9
              have h9 : PhS (.val (.agg #[.bool bL, .bool bR, .slice ta tn tc])) (val 9) W := hF 9 l9 rfl
              rw [show val 9 = .agg #[.bool bL, .bool bR, .slice ta tn tc] from h9] at q25
              refine op_valv (.agg #[.bool aL, .bool aR, .slice sa sn sc, .bool bL, .bool bR, .slice ta tn tc]) W (fun _ _ => trivial) ?_ ⟨Below.refl _ _, rfl⟩
              rw [Oper.semAt_plain _ _ _ (by intro c h; cases h)]
              simp [execOp, q19, q25, go_sem]
            · cases ho
              refine opG_plain rfl rfl ?_
              have l0 : listed.getD 0 false = true := haf ⟨0, .data⟩ (Array.mem_of_getElem? (i := 0) rfl) rfl
              have q16 : a'.tmps[16]? = some (val 0) := hS.tmpSet 0 _ 16 rfl rfl (by simp) l0
              have h0 : PhS (.val (fnS f)) (val 0) W := hF 0 l0 rfl
              rw [show val 0 = fnS f from h0] at q16
              have l10 : listed.getD 10 false = true := haf ⟨10, .data⟩ (Array.mem_of_getElem? (i := 1) rfl) rfl
              have q26 : a'.tmps[26]? = some (val 10) := hS.tmpSet 10 _ 26 rfl rfl (by simp) l10
              have h10 : PhS (.val (.agg #[.bool aL, .bool aR, .slice sa sn sc, .bool bL, .bool bR, .slice ta tn tc])) (val 10) W := hF 10 l10 rfl
              rw [show val 10 = .agg #[.bool aL, .bool aR, .slice sa sn sc, .bool bL, .bool bR, .slice ta tn tc] from h10] at q26
              refine op_callv f #[.agg #[.bool aL, .bool aR, .slice sa sn sc, .bool bL, .bool bR, .slice ta tn tc]] (fun _ _ => trivial) ?_ (by omega) ((callsIn_wide.2 (HCF.out W hIW.1)).mono ?_)
              · rw [Oper.semAt_plain _ _ _ (by intro c h; cases h)]
                simp [execOp, q16, q26, heF, go_sem]
              · rintro e W2 ⟨hb, ⟨_, v9, rfl, hk⟩ | ⟨h, _⟩⟩
                · obtain ⟨ya, yc, rfl, -, -⟩ := hk.form
                  exact ⟨_, rfl, hb, ya, _, yc, rfl, hk⟩
                · exact absurd hE h
            · cases ho
              refine opG_plain rfl rfl ?_
              have l11 : listed.getD 11 false = true := haf ⟨11, .data⟩ (Array.mem_of_getElem? (i := 0) rfl) rfl
              have q27 : a'.tmps[27]? = some (val 11) := hS.tmpSet 11 _ 27 rfl rfl (by simp) l11
              have h11 : PhS (.sl ((fun s => .tuple #[.agg #[.bool AL, .bool AR, s], .nilIface])) (AN)) (val 11) W := hF 11 l11 rfl
              obtain ⟨va11, vn11, vc11, e11, hk11⟩ := h11
              rw [e11] at q27
              refine op_valv (((fun s => .tuple #[.agg #[.bool AL, .bool AR, s], .nilIface])) (.slice va11 vn11 vc11)) W (fun _ _ => trivial) ?_ ⟨Below.refl _ _, va11, vn11, vc11, rfl, hk11⟩
              rw [Oper.semAt_plain _ _ _ (by intro c h; cases h)]
              simp [execOp, q27, go_sem]
            · cases ho
              refine opG_plain rfl rfl ?_
              have l12 : listed.getD 12 false = true := haf ⟨12, .data⟩ (Array.mem_of_getElem? (i := 0) rfl) rfl
              have q15 : a'.tmps[15]? = some (val 12) := hS.tmpSet 12 _ 15 rfl rfl (by simp) l12
              have h12 : PhS (.sl ((fun s => .tuple #[.agg #[.bool AL, .bool AR, s], .nilIface])) (AN)) (val 12) W := hF 12 l12 rfl
              obtain ⟨va12, vn12, vc12, e12, hk12⟩ := h12
              rw [e12] at q15
              refine op_valv (((fun s => .agg #[.bool AL, .bool AR, s])) (.slice va12 vn12 vc12)) W (fun _ _ => trivial) ?_ ⟨Below.refl _ _, va12, vn12, vc12, rfl, hk12⟩
              rw [Oper.semAt_plain _ _ _ (by intro c h; cases h)]
              simp [execOp, q15, go_sem]
            · cases ho
              refine opG_plain rfl rfl ?_
              have l12 : listed.getD 12 false = true := haf ⟨12, .data⟩ (Array.mem_of_getElem? (i := 0) rfl) rfl
              have q15 : a'.tmps[15]? = some (val 12) := hS.tmpSet 12 _ 15 rfl rfl (by simp) l12
              have h12 : PhS (.sl ((fun s => .tuple #[.agg #[.bool AL, .bool AR, s], .nilIface])) (AN)) (val 12) W := hF 12 l12 rfl
              obtain ⟨va12, vn12, vc12, e12, hk12⟩ := h12
              rw [e12] at q15
              refine op_valv (.nilIface) W (fun _ _ => trivial) ?_ ⟨Below.refl _ _, rfl⟩
              rw [Oper.semAt_plain _ _ _ (by intro c h; cases h)]
              simp [execOp, q15, go_sem]
            · exact absurd (by decide) hnz
            · cases ho
              refine opG_plain rfl rfl ?_
              have l14 : listed.getD 14 false = true := haf ⟨14, .data⟩ (Array.mem_of_getElem? (i := 0) rfl) rfl
              have q29 : a'.tmps[29]? = some (val 14) := hS.tmpSet 14 _ 29 rfl rfl (by simp) l14
              have h14 : PhS (.val (.nilIface)) (val 14) W := hF 14 l14 rfl
              rw [show val 14 = .nilIface from h14] at q29
              refine op_valv (.nilIface) W (fun _ _ => trivial) ?_ ⟨Below.refl _ _, rfl⟩
              rw [Oper.semAt_plain _ _ _ (by intro c h; cases h)]
              simp [execOp, q29, go_sem]
          · intro z oo listed a' W val hz ho haf hS hIW hF hO
            have hz' : z = 15 := by simpa using hz
            obtain rfl := hz'
            · cases ho
              refine opG_plain rfl rfl ?_
              have q6 : a'.tmps[6]? = some (.pointer (some ⟨w.heap.size, 0, none⟩)) := (hS.tmpBase 6 (by kernel_rfl)).trans rfl
              have l13 : listed.getD 13 false = true := haf ⟨13, .data⟩ (Array.mem_of_getElem? (i := 0) rfl) rfl
              have q28 : a'.tmps[28]? = some (val 13) := hS.tmpSet 13 _ 28 rfl rfl (by simp) l13
              have h13 : PhS (.sl ((fun s => .agg #[.bool AL, .bool AR, s])) (AN)) (val 13) W := hF 13 l13 rfl
              obtain ⟨va13, vn13, vc13, e13, hk13⟩ := h13
              rw [e13] at q28
              obtain ⟨hle, hbx⟩ := hIW.2.1 (w.heap.size) (by simp)
              have hbx' := hbx
              obtain ⟨x', y', a0', n', c', hr⟩ := hbx'
              obtain ⟨d0, d1, d2, f0, f1, f2⟩ := srow3 hr
              refine op_skipv (set3 W (w.heap.size) (.bool AL) (.bool AR) (.slice va13 vn13 vc13)) (fun _ _ => trivial) ?_ ⟨IB.put hIW hle hbx (fun r hr => by simp only [List.mem_cons, List.not_mem_nil, or_false] at hr; rcases hr with rfl <;> (dsimp only; omega)) _ _ _ _ _, trivial, fun j hj hk => PhS.put hbx _ _ _ hk (hF j hj hk), (show StS (.pointer (some ⟨w.heap.size, 0, none⟩)) (val 13) _ from by rw [e13]; exact StS.of hbx _ _ _), fun y hy _ hne => absurd (by simpa using hy) hne⟩
              rw [Oper.semAt_plain _ _ _ (by intro c h; cases h)]
              simp [execOp, q6, q28, d0, d1, d2, f0, f1, f2, go_sem]
          · intro W9 val hIW hF hST
            have e0 : val 0 = fnS f := hF 0 (by decide) rfl
            have e1 : val 1 = .slice (some ⟨k, 0, none⟩) 2 2 := hF 1 (by decide) rfl
            have e2 : val 2 = .pointer (some ⟨k, 0, none⟩) := hF 2 (by decide) rfl
            have e3 : val 3 = .agg #[.bool aL, .bool aR, .slice sa sn sc] := hF 3 (by decide) rfl
            have e4 : val 4 = .slice (some ⟨k, 0, none⟩) 2 2 := hF 4 (by decide) rfl
            have e5 : val 5 = .slice (some ⟨k, 0, none⟩) 2 2 := hF 5 (by decide) rfl
            have e6 : val 6 = .int .i64 2 := hF 6 (by decide) rfl
            have e7 : val 7 = .int .i64 1 := hF 7 (by decide) rfl
            have e8 : val 8 = .pointer (some ⟨k, 3, none⟩) := hF 8 (by decide) rfl
            have e9 : val 9 = .agg #[.bool bL, .bool bR, .slice ta tn tc] := hF 9 (by decide) rfl
            have e10 : val 10 = .agg #[.bool aL, .bool aR, .slice sa sn sc, .bool bL, .bool bR, .slice ta tn tc] := hF 10 (by decide) rfl
            obtain ⟨va11, vn11, vc11, e11, hk11⟩ : PhS (.sl ((fun s => .tuple #[.agg #[.bool AL, .bool AR, s], .nilIface])) (AN)) (val 11) W9 := hF 11 (by decide) rfl
            obtain ⟨va12, vn12, vc12, e12, hk12⟩ : PhS (.sl ((fun s => .tuple #[.agg #[.bool AL, .bool AR, s], .nilIface])) (AN)) (val 12) W9 := hF 12 (by decide) rfl
            obtain ⟨va13, vn13, vc13, e13, hk13⟩ : PhS (.sl ((fun s => .agg #[.bool AL, .bool AR, s])) (AN)) (val 13) W9 := hF 13 (by decide) rfl
            have e14 : val 14 = .nilIface := hF 14 (by decide) rfl
            have e16 : val 16 = .nilIface := hF 16 (by decide) rfl
            have hst15 := (show StS (.pointer (some ⟨w.heap.size, 0, none⟩)) (val 13) W9 from hST 15 (by simp)) _ _ _ _ rfl e13
            simp only [finAct, List.getElem?_toArray, List.getElem?_cons_zero, List.getElem?_cons_succ, Act.put, List.setIfInBounds_toArray, List.set_cons_zero, List.set_cons_succ, List.size_toArray, List.length_cons, List.length_nil, Nat.reduceAdd]
            simp only [e0, e1, e2, e3, e4, e5, e6, e7, e8, e9, e10, e11, e12, e13, e14, e16]
            have hr9 := hst15
            obtain ⟨d0, d1, d2, f0, f1, f2⟩ := srow3 hr9
            have HF9 := Lib.hid (fin_of hIW.1 (Nat.le_refl _) hr9 (.bool AL) (.bool AR) (.slice va13 vn13 vc13))
            have HK9 := Lib.hid (HF9.out.kl _ _ hk13)
            clear hF hST hst15 hr9 hIW
            go_wp2
            refine bodyPost_ret (v := .tuple #[.agg #[.bool AL, .bool AR, .slice va13 vn13 vc13], .nilIface]) (by simp [results, Tryz.f30, go_sem, HF9.out.c0, HF9.out.c1, HF9.out.c2]) rfl ⟨HF9.out.below, .inl ⟨HCE2.out.trans hE, _, rfl, HK9.out⟩⟩
        case pass =>
          rintro a' W ⟨c, u1, u2, u3, u4, u5, u8, u9, u10, u11, u12, u13, u14, u15, u16, u17, u18, u19, u20, u21, u22, u23, u24, u25, u26, u27, u28, u29, u30, u31, u32, u33, u34, u35, u36, u37, hc, hcn, rfl, hbW, hrW⟩
          exact absurd (hc.trans (HCE2.out.trans hE)) hcn
      · have HCN : Hid (cE ≠ 0) := Lib.hid (by rw [HCE2.out]; exact hE)
        go_enter Tryz.func30, Tryz.ntmps30
        go_wp2_with fail
        refine wp_scope_jumps 0 (fun a' W => ∃ (c : Int) (u1 u2 u3 u4 u5 u8 u9 u10 u11 u12 u13 u14 u15 u16 u17 u18 u19 u20 u21 u22 u23 u24 u25 u26 u27 u28 u29 u30 u31 u32 u33 u34 u35 u36 u37 : Value), c = cE ∧ c ≠ 0 ∧ a' = { tmps := #[.string g, u1, u2, u3, u4, u5, .pointer (some ⟨w.heap.size, 0, none⟩), sh_faultV c, u8, u9, u10, u11, u12, u13, u14, u15, u16, u17, u18, u19, u20, u21, u22, u23, u24, u25, u26, u27, u28, u29, u30, u31, u32, u33, u34, u35, u36, u37], defers := [] } ∧ Below w.heap.size w W ∧ Row W w.heap.size 24 #[.bool false, .bool false, .slice none 0 0]) (fun _ _ => 0) rfl ?first ?pass
        case first =>
          go_wp2_with (go_at_call 46; refine HALL.out.mono ?_; rintro e w3 ⟨rfl, hb⟩; rw [← HW1.out] at hb; have HB3 := Lib.hid hb; have hq := seq_fn f w3; clear hb)
          have HIB := Lib.hid (HIBW.out w3 HB3.out)
          refine (wpIn_wide (n := 9)).1 ?_
          refine wpIn_region_putI (by kernel_rfl) (by kernel_rfl) [15] (fun z => if z = 15 then 13 else 0) (fun z => if z = 15 then 13 else 0) (fun j => keepK ([.val (fnS f), .val (.slice (some ⟨k, 0, none⟩) 2 2), .val (.pointer (some ⟨k, 0, none⟩)), .val (.agg #[.bool aL, .bool aR, .slice sa sn sc]), .val (.slice (some ⟨k, 0, none⟩) 2 2), .val (.slice (some ⟨k, 0, none⟩) 2 2), .val (.int .i64 2), .val (.int .i64 1), .val (.pointer (some ⟨k, 3, none⟩)), .val (.agg #[.bool bL, .bool bR, .slice ta tn tc]), .val (.agg #[.bool aL, .bool aR, .slice sa sn sc, .bool bL, .bool bR, .slice ta tn tc]), .val (.tuple #[.agg #[.bool false, .bool false, .slice none 0 0], sh_faultV E]), .val (.tuple #[.agg #[.bool false, .bool false, .slice none 0 0], sh_faultV E]), .val (.agg #[.bool false, .bool false, .slice none 0 0]), .val (sh_faultV E), .any, .val (sh_faultV E)].getD j .any)) (by decide) (IB w [w.heap.size] [(k, 24, #[.bool aL, .bool aR, .slice sa sn sc, .bool bL, .bool bR, .slice ta tn tc])]) (fun i => PhS ([.val (fnS f), .val (.slice (some ⟨k, 0, none⟩) 2 2), .val (.pointer (some ⟨k, 0, none⟩)), .val (.agg #[.bool aL, .bool aR, .slice sa sn sc]), .val (.slice (some ⟨k, 0, none⟩) 2 2), .val (.slice (some ⟨k, 0, none⟩) 2 2), .val (.int .i64 2), .val (.int .i64 1), .val (.pointer (some ⟨k, 3, none⟩)), .val (.agg #[.bool bL, .bool bR, .slice ta tn tc]), .val (.agg #[.bool aL, .bool aR, .slice sa sn sc, .bool bL, .bool bR, .slice ta tn tc]), .val (.tuple #[.agg #[.bool false, .bool false, .slice none 0 0], sh_faultV E]), .val (.tuple #[.agg #[.bool false, .bool false, .slice none 0 0], sh_faultV E]), .val (.agg #[.bool false, .bool false, .slice none 0 0]), .val (sh_faultV E), .any, .val (sh_faultV E)].getD i .any)) (fun z u v => StS (.pointer (some ⟨w.heap.size, 0, none⟩)) v) (fun W W' hb h => h.below hb) (fun i v W W' hb h => PhS.below hb h) (fun i u v W W' hb h => StS.below hb h) (HIB.out.below (Below.refl _ _).drew) ?_ ?_ ?_
          · intro i oo listed a' W val ho hi hnz haf hS hIW hF
            have hi' : i < 17 := hi
            obtain rfl | rfl | rfl | rfl | rfl | rfl | rfl | rfl | rfl | rfl | rfl | rfl | rfl | rfl | rfl | rfl | rfl : i = 0 ∨ i = 1 ∨ i = 2 ∨ i = 3 ∨ i = 4 ∨ i = 5 ∨ i = 6 ∨ i = 7 ∨ i = 8 ∨ i = 9 ∨ i = 10 ∨ i = 11 ∨ i = 12 ∨ i = 13 ∨ i = 14 ∨ i = 15 ∨ i = 16 := by omega
            · cases ho
              refine opG_plain rfl rfl ?_
              have q1 : a'.tmps[1]? = some (fnS f) := (hS.tmpBase 1 (by kernel_rfl)).trans rfl
              refine op_valv (fnS f) W (fun _ _ => trivial) ?_ ⟨Below.refl _ _, rfl⟩
              rw [Oper.semAt_plain _ _ _ (by intro c h; cases h)]
              simp [execOp, q1, go_sem]
            · cases ho
              refine opG_plain rfl rfl ?_
              have q2 : a'.tmps[2]? = some (.slice (some ⟨k, 0, none⟩) 2 2) := (hS.tmpBase 2 (by kernel_rfl)).trans rfl
              refine op_valv (.slice (some ⟨k, 0, none⟩) 2 2) W (fun _ _ => trivial) ?_ ⟨Below.refl _ _, rfl⟩
              rw [Oper.semAt_plain _ _ _ (by intro c h; cases h)]
              simp [execOp, q2, go_sem]
            · cases ho
              refine opG_plain rfl rfl ?_
              have l1 : listed.getD 1 false = true := haf ⟨1, .data⟩ (Array.mem_of_getElem? (i := 0) rfl) rfl
              have q17 : a'.tmps[17]? = some (val 1) := hS.tmpSet 1 _ 17 rfl rfl (by simp) l1
              have h1 : PhS (.val (.slice (some ⟨k, 0, none⟩) 2 2)) (val 1) W := hF 1 l1 rfl
              rw [show val 1 = .slice (some ⟨k, 0, none⟩) 2 2 from h1] at q17
              refine op_valv (.pointer (some ⟨k, 0, none⟩)) W (fun _ _ => trivial) ?_ ⟨Below.refl _ _, rfl⟩
              rw [Oper.semAt_plain _ _ _ (by intro c h; cases h)]
              simp [execOp, q17, go_sem]
            · cases ho
              refine opG_plain rfl rfl ?_
              have l2 : listed.getD 2 false = true := haf ⟨2, .data⟩ (Array.mem_of_getElem? (i := 0) rfl) rfl
              have q18 : a'.tmps[18]? = some (val 2) := hS.tmpSet 2 _ 18 rfl rfl (by simp) l2
              have h2 : PhS (.val (.pointer (some ⟨k, 0, none⟩))) (val 2) W := hF 2 l2 rfl
              rw [show val 2 = .pointer (some ⟨k, 0, none⟩) from h2] at q18
              have hr := hIW.2.2 _ (List.mem_of_getElem? (i := 0) rfl)
              obtain ⟨z0, z1, z2, z3, z4, z5⟩ := srow6 hr
              refine op_valv (.agg #[.bool aL, .bool aR, .slice sa sn sc]) W (fun _ _ => trivial) ?_ ⟨Below.refl _ _, rfl⟩
              rw [Oper.semAt_plain _ _ _ (by intro c h; cases h)]
              simp [execOp, q18, z0, z1, z2, go_sem]
            · cases ho
              refine opG_plain rfl rfl ?_
              have q2 : a'.tmps[2]? = some (.slice (some ⟨k, 0, none⟩) 2 2) := (hS.tmpBase 2 (by kernel_rfl)).trans rfl
              refine op_valv (.slice (some ⟨k, 0, none⟩) 2 2) W (fun _ _ => trivial) ?_ ⟨Below.refl _ _, rfl⟩
              rw [Oper.semAt_plain _ _ _ (by intro c h; cases h)]
              simp [execOp, q2, go_sem]
            · cases ho
              refine opG_plain rfl rfl ?_
              have q2 : a'.tmps[2]? = some (.slice (some ⟨k, 0, none⟩) 2 2) := (hS.tmpBase 2 (by kernel_rfl)).trans rfl
              refine op_valv (.slice (some ⟨k, 0, none⟩) 2 2) W (fun _ _ => trivial) ?_ ⟨Below.refl _ _, rfl⟩
              rw [Oper.semAt_plain _ _ _ (by intro c h; cases h)]
              simp [execOp, q2, go_sem]
            · cases ho
              refine opG_plain rfl rfl ?_
              have l5 : listed.getD 5 false = true := haf ⟨5, .data⟩ (Array.mem_of_getElem? (i := 0) rfl) rfl
              have q21 : a'.tmps[21]? = some (val 5) := hS.tmpSet 5 _ 21 rfl rfl (by simp) l5
              have h5 : PhS (.val (.slice (some ⟨k, 0, none⟩) 2 2)) (val 5) W := hF 5 l5 rfl
              rw [show val 5 = .slice (some ⟨k, 0, none⟩) 2 2 from h5] at q21
              refine op_valv (.int .i64 2) W (fun _ _ => trivial) ?_ ⟨Below.refl _ _, rfl⟩
              rw [Oper.semAt_plain _ _ _ (by intro c h; cases h)]
              simp [execOp, q21, go_sem]
            · cases ho
              refine opG_plain rfl rfl ?_
              have l6 : listed.getD 6 false = true := haf ⟨6, .data⟩ (Array.mem_of_getElem? (i := 0) rfl) rfl
              have q22 : a'.tmps[22]? = some (val 6) := hS.tmpSet 6 _ 22 rfl rfl (by simp) l6
              have h6 : PhS (.val (.int .i64 2)) (val 6) W := hF 6 l6 rfl
              rw [show val 6 = .int .i64 2 from h6] at q22
              refine op_valv (.int .i64 1) W (fun _ _ => trivial) ?_ ⟨Below.refl _ _, rfl⟩
              rw [Oper.semAt_plain _ _ _ (by intro c h; cases h)]
              simp [execOp, q22, show IntKind.i64.wrap 1 = 1 from by decide, go_sem]
            · cases ho
              refine opG_plain rfl rfl ?_
              have l4 : listed.getD 4 false = true := haf ⟨4, .data⟩ (Array.mem_of_getElem? (i := 0) rfl) rfl
              have q20 : a'.tmps[20]? = some (val 4) := hS.tmpSet 4 _ 20 rfl rfl (by simp) l4
              have h4 : PhS (.val (.slice (some ⟨k, 0, none⟩) 2 2)) (val 4) W := hF 4 l4 rfl
              rw [show val 4 = .slice (some ⟨k, 0, none⟩) 2 2 from h4] at q20
              have l7 : listed.getD 7 false = true := haf ⟨7, .data⟩ (Array.mem_of_getElem? (i := 1) rfl) rfl
              have q23 : a'.tmps[23]? = some (val 7) := hS.tmpSet 7 _ 23 rfl rfl (by simp) l7
              have h7 : PhS (.val (.int .i64 1)) (val 7) W := hF 7 l7 rfl
              rw [show val 7 = .int .i64 1 from h7] at q23
              refine op_valv (.pointer (some ⟨k, 3, none⟩)) W (fun _ _ => trivial) ?_ ⟨Below.refl _ _, rfl⟩
              rw [Oper.semAt_plain _ _ _ (by intro c h; cases h)]
              simp [execOp, q20, q23, go_sem]
            · cases ho
              refine opG_plain rfl rfl ?_
              have l8 : listed.getD 8 false = true := haf ⟨8, .data⟩ (Array.mem_of_getElem? (i := 0) rfl) rfl
              have q24 : a'.tmps[24]? = some (val 8) := hS.tmpSet 8 _ 24 rfl rfl (by simp) l8
              have h8 : PhS (.val (.pointer (some ⟨k, 3, none⟩))) (val 8) W := hF 8 l8 rfl
              rw [show val 8 = .pointer (some ⟨k, 3, none⟩) from h8] at q24
              have hr := hIW.2.2 _ (List.mem_of_getElem? (i := 0) rfl)
              obtain ⟨z0, z1, z2, z3, z4, z5⟩ := srow6 hr
              refine op_valv (.agg #[.bool bL, .bool bR, .slice ta tn tc]) W (fun _ _ => trivial) ?_ ⟨Below.refl _ _, rfl⟩
              rw [Oper.semAt_plain _ _ _ (by intro c h; cases h)]
              simp [execOp, q24, z3, z4, z5, go_sem]
            · cases ho
              refine opG_plain rfl rfl ?_
              have l3 : listed.getD 3 false = true := haf ⟨3, .data⟩ (Array.mem_of_getElem? (i := 0) rfl) rfl
              have q19 : a'.tmps[19]? = some (val 3) := hS.tmpSet 3 _ 19 rfl rfl (by simp) l3
              have h3 : PhS (.val (.agg #[.bool aL, .bool aR, .slice sa sn sc])) (val 3) W := hF 3 l3 rfl
              rw [show val 3 = .agg #[.bool aL, .bool aR, .slice sa sn sc] from h3] at q19
              have l9 : listed.getD 9 false = true := haf ⟨9, .data⟩ (Array.mem_of_getElem? (i := 1) rfl) rfl
              have q25 : a'.tmps[25]? = some (val 9) := hS.tmpSet 9 _ 25 rfl rfl (by simp) l9
              have h9 : PhS (.val (.agg #[.bool bL, .bool bR, .slice ta tn tc])) (val 9) W := hF 9 l9 rfl
              rw [show val 9 = .agg #[.bool bL, .bool bR, .slice ta tn tc] from h9] at q25
              refine op_valv (.agg #[.bool aL, .bool aR, .slice sa sn sc, .bool bL, .bool bR, .slice ta tn tc]) W (fun _ _ => trivial) ?_ ⟨Below.refl _ _, rfl⟩
              rw [Oper.semAt_plain _ _ _ (by intro c h; cases h)]
              simp [execOp, q19, q25, go_sem]
            · cases ho
              refine opG_plain rfl rfl ?_
              have l0 : listed.getD 0 false = true := haf ⟨0, .data⟩ (Array.mem_of_getElem? (i := 0) rfl) rfl
              have q16 : a'.tmps[16]? = some (val 0) := hS.tmpSet 0 _ 16 rfl rfl (by simp) l0
              have h0 : PhS (.val (fnS f)) (val 0) W := hF 0 l0 rfl
              rw [show val 0 = fnS f from h0] at q16
              have l10 : listed.getD 10 false = true := haf ⟨10, .data⟩ (Array.mem_of_getElem? (i := 1) rfl) rfl
              have q26 : a'.tmps[26]? = some (val 10) := hS.tmpSet 10 _ 26 rfl rfl (by simp) l10
              have h10 : PhS (.val (.agg #[.bool aL, .bool aR, .slice sa sn sc, .bool bL, .bool bR, .slice ta tn tc])) (val 10) W := hF 10 l10 rfl
              rw [show val 10 = .agg #[.bool aL, .bool aR, .slice sa sn sc, .bool bL, .bool bR, .slice ta tn tc] from h10] at q26
              refine op_callv f #[.agg #[.bool aL, .bool aR, .slice sa sn sc, .bool bL, .bool bR, .slice ta tn tc]] (fun _ _ => trivial) ?_ (by omega) ((callsIn_wide.2 (HCF.out W hIW.1)).mono ?_)
              · rw [Oper.semAt_plain _ _ _ (by intro c h; cases h)]
                simp [execOp, q16, q26, heF, go_sem]
              · rintro e W2 ⟨hb, ⟨h, _⟩ | ⟨_, rfl⟩⟩
                · exact absurd h hE
                · exact ⟨_, rfl, hb, rfl⟩
            · cases ho
              refine opG_plain rfl rfl ?_
              have l11 : listed.getD 11 false = true := haf ⟨11, .data⟩ (Array.mem_of_getElem? (i := 0) rfl) rfl
              have q27 : a'.tmps[27]? = some (val 11) := hS.tmpSet 11 _ 27 rfl rfl (by simp) l11
              have h11 : PhS (.val (.tuple #[.agg #[.bool false, .bool false, .slice none 0 0], sh_faultV E])) (val 11) W := hF 11 l11 rfl
              rw [show val 11 = .tuple #[.agg #[.bool false, .bool false, .slice none 0 0], sh_faultV E] from h11] at q27
              refine op_valv (.tuple #[.agg #[.bool false, .bool false, .slice none 0 0], sh_faultV E]) W (fun _ _ => trivial) ?_ ⟨Below.refl _ _, rfl⟩
              rw [Oper.semAt_plain _ _ _ (by intro c h; cases h)]
              simp [execOp, q27, go_sem]
            · cases ho
              refine opG_plain rfl rfl ?_
              have l12 : listed.getD 12 false = true := haf ⟨12, .data⟩ (Array.mem_of_getElem? (i := 0) rfl) rfl
              have q15 : a'.tmps[15]? = some (val 12) := hS.tmpSet 12 _ 15 rfl rfl (by simp) l12
              have h12 : PhS (.val (.tuple #[.agg #[.bool false, .bool false, .slice none 0 0], sh_faultV E])) (val 12) W := hF 12 l12 rfl
              rw [show val 12 = .tuple #[.agg #[.bool false, .bool false, .slice none 0 0], sh_faultV E] from h12] at q15
              refine op_valv (.agg #[.bool false, .bool false, .slice none 0 0]) W (fun _ _ => trivial) ?_ ⟨Below.refl _ _, rfl⟩
              rw [Oper.semAt_plain _ _ _ (by intro c h; cases h)]
              simp [execOp, q15, go_sem]
            · cases ho
              refine opG_plain rfl rfl ?_
              have l12 : listed.getD 12 false = true := haf ⟨12, .data⟩ (Array.mem_of_getElem? (i := 0) rfl) rfl
              have q15 : a'.tmps[15]? = some (val 12) := hS.tmpSet 12 _ 15 rfl rfl (by simp) l12
              have h12 : PhS (.val (.tuple #[.agg #[.bool false, .bool false, .slice none 0 0], sh_faultV E])) (val 12) W := hF 12 l12 rfl
              rw [show val 12 = .tuple #[.agg #[.bool false, .bool false, .slice none 0 0], sh_faultV E] from h12] at q15
              refine op_valv (sh_faultV E) W (fun _ _ => trivial) ?_ ⟨Below.refl _ _, rfl⟩
              rw [Oper.semAt_plain _ _ _ (by intro c h; cases h)]
              simp [execOp, q15, go_sem]
            · exact absurd (by decide) hnz
            · cases ho
              refine opG_plain rfl rfl ?_
              have l14 : listed.getD 14 false = true := haf ⟨14, .data⟩ (Array.mem_of_getElem? (i := 0) rfl) rfl
              have q29 : a'.tmps[29]? = some (val 14) := hS.tmpSet 14 _ 29 rfl rfl (by simp) l14
              have h14 : PhS (.val (sh_faultV E)) (val 14) W := hF 14 l14 rfl
              rw [show val 14 = sh_faultV E from h14] at q29
              refine op_valv (sh_faultV E) W (fun _ _ => trivial) ?_ ⟨Below.refl _ _, rfl⟩
              rw [Oper.semAt_plain _ _ _ (by intro c h; cases h)]
              simp [execOp, q29, go_sem]
          · intro z oo listed a' W val hz ho haf hS hIW hF hO
            have hz' : z = 15 := by simpa using hz
            obtain rfl := hz'
            · cases ho
              refine opG_plain rfl rfl ?_
              have q6 : a'.tmps[6]? = some (.pointer (some ⟨w.heap.size, 0, none⟩)) := (hS.tmpBase 6 (by kernel_rfl)).trans rfl
              have l13 : listed.getD 13 false = true := haf ⟨13, .data⟩ (Array.mem_of_getElem? (i := 0) rfl) rfl
              have q28 : a'.tmps[28]? = some (val 13) := hS.tmpSet 13 _ 28 rfl rfl (by simp) l13
              have h13 : PhS (.val (.agg #[.bool false, .bool false, .slice none 0 0])) (val 13) W := hF 13 l13 rfl
              rw [show val 13 = .agg #[.bool false, .bool false, .slice none 0 0] from h13] at q28
              obtain ⟨hle, hbx⟩ := hIW.2.1 (w.heap.size) (by simp)
              have hbx' := hbx
              obtain ⟨x', y', a0', n', c', hr⟩ := hbx'
              obtain ⟨d0, d1, d2, f0, f1, f2⟩ := srow3 hr
              refine op_skipv (set3 W (w.heap.size) (.bool false) (.bool false) (.slice none 0 0)) (fun _ _ => trivial) ?_ ⟨IB.put hIW hle hbx (fun r hr => by simp only [List.mem_cons, List.not_mem_nil, or_false] at hr; rcases hr with rfl <;> (dsimp only; omega)) _ _ _ _ _, trivial, fun j hj hk => PhS.put hbx _ _ _ hk (hF j hj hk), (show StS (.pointer (some ⟨w.heap.size, 0, none⟩)) (val 13) _ from by rw [(show val 13 = .agg #[.bool false, .bool false, .slice none 0 0] from h13)]; exact StS.of hbx _ _ _), fun y hy _ hne => absurd (by simpa using hy) hne⟩
              rw [Oper.semAt_plain _ _ _ (by intro c h; cases h)]
              simp [execOp, q6, q28, d0, d1, d2, f0, f1, f2, go_sem]
          · intro W9 val hIW hF hST
            have e0 : val 0 = fnS f := hF 0 (by decide) rfl
            have e1 : val 1 = .slice (some ⟨k, 0, none⟩) 2 2 := hF 1 (by decide) rfl
            have e2 : val 2 = .pointer (some ⟨k, 0, none⟩) := hF 2 (by decide) rfl
            have e3 : val 3 = .agg #[.bool aL, .bool aR, .slice sa sn sc] := hF 3 (by decide) rfl
            have e4 : val 4 = .slice (some ⟨k, 0, none⟩) 2 2 := hF 4 (by decide) rfl
            have e5 : val 5 = .slice (some ⟨k, 0, none⟩) 2 2 := hF 5 (by decide) rfl
            have e6 : val 6 = .int .i64 2 := hF 6 (by decide) rfl
            have e7 : val 7 = .int .i64 1 := hF 7 (by decide) rfl
            have e8 : val 8 = .pointer (some ⟨k, 3, none⟩) := hF 8 (by decide) rfl
            have e9 : val 9 = .agg #[.bool bL, .bool bR, .slice ta tn tc] := hF 9 (by decide) rfl
            have e10 : val 10 = .agg #[.bool aL, .bool aR, .slice sa sn sc, .bool bL, .bool bR, .slice ta tn tc] := hF 10 (by decide) rfl
            have e11 : val 11 = .tuple #[.agg #[.bool false, .bool false, .slice none 0 0], sh_faultV E] := hF 11 (by decide) rfl
            have e12 : val 12 = .tuple #[.agg #[.bool false, .bool false, .slice none 0 0], sh_faultV E] := hF 12 (by decide) rfl
            have e13 : val 13 = .agg #[.bool false, .bool false, .slice none 0 0] := hF 13 (by decide) rfl
            have e14 : val 14 = sh_faultV E := hF 14 (by decide) rfl
            have e16 : val 16 = sh_faultV E := hF 16 (by decide) rfl
            have hst15 := (show StS (.pointer (some ⟨w.heap.size, 0, none⟩)) (val 13) W9 from hST 15 (by simp)) _ _ _ _ rfl e13
            simp only [finAct, List.getElem?_toArray, List.getElem?_cons_zero, List.getElem?_cons_succ, Act.put, List.setIfInBounds_toArray, List.set_cons_zero, List.set_cons_succ, List.size_toArray, List.length_cons, List.length_nil, Nat.reduceAdd]
            simp only [e0, e1, e2, e3, e4, e5, e6, e7, e8, e9, e10, e11, e12, e13, e14, e16]
            have hr9 := hst15
            obtain ⟨d0, d1, d2, f0, f1, f2⟩ := srow3 hr9
            have HF9 := Lib.hid (fin_of hIW.1 (Nat.le_refl _) hr9 (.bool false) (.bool false) (.slice none 0 0))
            have HC : Hid (E = cE) := Lib.hid HCE2.out.symm
            clear hF hST hst15 hr9 hIW
            go_wp2
            refine wp_label ?_
            go_wp2
            refine bodyPost_ret (v := .tuple #[.agg #[.bool false, .bool false, .slice none 0 0], sh_wrongV g (sh_faultV E)]) (by simp [results, Tryz.f30, go_sem, HF9.out.c0, HF9.out.c1, HF9.out.c2]) rfl ⟨HF9.out.below, .inr ⟨HCN.out, by rw [HC.out]⟩⟩
        case pass =>
          rintro a' W ⟨c, u1, u2, u3, u4, u5, u8, u9, u10, u11, u12, u13, u14, u15, u16, u17, u18, u19, u20, u21, u22, u23, u24, u25, u26, u27, u28, u29, u30, u31, u32, u33, u34, u35, u36, u37, hc, hcn, rfl, hbW, hrW⟩
          obtain ⟨d0, d1, d2, f0, f1, f2⟩ := srow3 hrW
          have HC := Lib.hid hc
          have HF9 := Lib.hid (fin_of hbW (Nat.le_refl _) hrW (.bool false) (.bool false) (.slice none 0 0))
          clear hc hbW hrW
          go_wp2
          refine bodyPost_ret (v := .tuple #[.agg #[.bool false, .bool false, .slice none 0 0], sh_wrongV g (sh_faultV c)]) (by simp [results, Tryz.f30, go_sem, HF9.out.c0, HF9.out.c1, HF9.out.c2]) rfl ⟨HF9.out.below, .inr ⟨HCN.out, by rw [HC.out]⟩⟩
end Go.Proofs.YteclpoooggcdoaaGreatDoor.Ar
