/- The plain moved: nodes, their kids' places so much greater. Written by gen/mkmoved.py. -/
import Derived.Test.YtbegplfijjbpcaaDoorNqCf
namespace Go.Proofs.YtbegplfijjbpcaaDoor.No
open Go Go.RowKit Go.Shelf
attribute [local go_sem] Oper.semAt_some

/-- One number is appended to a box's: how far it is when so many of three steps are over. -/
def PV' (B h ib ia : Nat) (kd : Int) (V : ByteArray) (q0 : Value) (L : List Int) (y : Int) : Nat → (Nat → Value) → World → Prop
  | 0, _, W => Row W h 42 #[.int .i64 kd, .string V, q0] ∧ IOwn W B q0 L
  | 1, v, W => Row W h 42 #[.int .i64 kd, .string V, q0] ∧ IOwn W B q0 L ∧ ∃ s, v ib = .slice (some ⟨s, 0, none⟩) 1 1 ∧ Row W s 3 #[.int .i64 y]
  | 2, v, W => Row W h 42 #[.int .i64 kd, .string V, q0] ∧ IOwn W B (v ia) (L ++ [y])
  | _, _, W => ∃ q, Row W h 42 #[.int .i64 kd, .string V, q] ∧ IOwn W B q (L ++ [y])
def PV (B : Nat) (w0 : World) (h ib ia : Nat) (kd : Int) (V : ByteArray) (q0 : Value) (L : List Int) (y : Int) (k : Nat) (v : Nat → Value) (W : World) : Prop := Below B w0 W ∧ PV' B h ib ia kd V q0 L y k v W

set_option maxRecDepth 100000 in
set_option maxHeartbeats 16000000 in
/-- moved(t, by). -/
theorem moved_c (w : World) (v : Value) (T : List Nd) (b : Int) (hT : NL w v T) (hn1 : T.length ≤ 1000000) (hk1 : ∀ x ∈ T, x.kids.length ≤ 1000000 ∧ ∀ a ∈ x.kids, -1000000 ≤ a ∧ a ≤ 1000000) (hb1 : -1000000 ≤ b ∧ b ≤ 1000000) :
    Calls Tryd.prog 41 #[v, .int .i64 b] w fun e W' => Below w.heap.size w W' ∧ ∃ u L, e = .returned u ∧ NOwn W' w.heap.size u L ∧ L.map (·.1) = T.map (movN b) := by
  obtain ⟨i2, hj, hy0, hy1, hy2⟩ := infoN
  obtain ⟨a0, c0, rfl, hc1, hc2⟩ := hT.form
  unfold maxLen at hc2
  have HCT := Lib.hid hT.cells
  have HKK := Lib.hid hk1
  obtain ⟨n, hn⟩ : ∃ n, n = T.length := ⟨_, rfl⟩
  rw [← hn] at hc1 HCT hn1 ⊢
  have HN := Lib.hid hn
  have HD := Lib.hid (Below.refl w.heap.size w)
  have hbl := hb1.1
  have hbr := hb1.2
  clear hT hn hk1 hb1
  refine (callsIn_wide (n := 5)).1 ?_
  refine callsIn_of_wp Tryd.func41 rfl trivial ?_ rfl
  simp only [Tryd.ntmps41, List.size_toArray, List.length_cons, List.length_nil, Nat.reduceAdd, Nat.reduceSub, Array.replicate_succ, Array.replicate_zero, List.push_toArray, List.append_toArray, List.nil_append, List.cons_append]
  gi_wp2
  gi_loopw [5, 6] (fun u i wr => ∃ (k : Nat) (L : List (Nd × Value)), k ≤ n ∧ i = .int .i64 k ∧ NOwn wr w.heap.size u L ∧ L.map (·.1) = (T.take k).map (movN b) ∧ Below w.heap.size w wr) (fun _ i _ => n - (intOf i).toNat)
  case atStart => exact ⟨0, [], Nat.zero_le _, rfl, NOwn.nil _ _, rfl, HD.out⟩
  case round =>
    obtain ⟨k, L, hk, rfl, hO, hL, hB⟩ := hrel
    obtain ⟨wo, rfl⟩ : ∃ W, W = wr := ⟨_, rfl⟩
    have HO := Lib.hid hO
    have HL := Lib.hid hL
    have HB := Lib.hid hB
    have hbs := hB.size
    clear hO hL
    by_cases hlt : k < n
    · obtain ⟨g, o, c1, hv, hg, hcs⟩ := HCT.out (by omega)
      obtain rfl : a0 = some ⟨g, o, none⟩ := by injection hv
      obtain rfl : c0 = c1 := by injection hv
      obtain ⟨x, hx⟩ : ∃ x, T[k]? = some x := ⟨_, List.getElem?_eq_getElem (by rw [← HN.out]; omega)⟩
      have HX := Lib.hid hx
      have HXK := Lib.hid (HKK.out x (List.mem_of_getElem? hx))
      obtain ⟨y0, y1, kx, y2, xk0⟩ := hcs k x hx
      obtain ⟨ka, kc, rfl, hl1, hl2⟩ := xk0.form
      unfold maxLen at hl2
      have HKL0 := Lib.hid xk0
      obtain ⟨K, hK⟩ : ∃ K, K = x.kids.length := ⟨_, rfl⟩
      obtain ⟨kd, hkd⟩ : ∃ n, n = x.kind := ⟨_, rfl⟩
      obtain ⟨U, hU⟩ : ∃ n, n = bs x.text := ⟨_, rfl⟩
      rw [← hK] at y2 hl1 HKL0
      rw [← hkd] at y0
      rw [← hU] at y1
      have HK := Lib.hid hK
      have hKm : K ≤ 1000000 := by rw [hK]; exact HXK.out.1
      have HNOD : Hid (∀ q, nodC (movN b x, q) = [.int .i64 kd, .string U, q]) := Lib.hid (fun q => by rw [hkd, hU]; rfl)
      have HCX : Hid (∀ W, Below w.heap.size w W → W.cell? ⟨g, o + k * 3, none⟩ = some (.int .i64 kd) ∧ W.cell? ⟨g, o + k * 3 + 1, none⟩ = some (.string U) ∧ W.cell? ⟨g, o + k * 3 + 2, none⟩ = some (.slice ka K kc)) := Lib.hid (fun W hW =>
        ⟨(hW.cell (p := ⟨g, o + k * 3, none⟩) hg).trans y0, (hW.cell (p := ⟨g, o + k * 3 + 1, none⟩) hg).trans y1, (hW.cell (p := ⟨g, o + k * 3 + 2, none⟩) hg).trans y2⟩)
      have HWW : Hid (∀ W, Below wo.heap.size wo W → Below w.heap.size w W) := Lib.hid (fun W hW => hB.trans (hW.mono hbs))
      have hkn : (k : Int) < (n : Int) := by omega
      clear hv hcs hx y0 y1 y2 xk0 hK hkd hU hB
      gi_wp2
      refine wpIn_region_chainC (by kernel_rfl) (by kernel_rfl) [11, 12] (by kernel_rfl) (by decide) (by decide) (fun pj pv => pv = [(.slice (some ⟨g, o, none⟩) n c0 : Value), .int .i64 (k : Int), .pointer (some ⟨g, o + k * 3, none⟩), .pointer (some ⟨g, o + k * 3, none⟩), .int .i64 kd, .slice (some ⟨g, o, none⟩) n c0, .int .i64 (k : Int), .pointer (some ⟨g, o + k * 3, none⟩), .pointer (some ⟨g, o + k * 3 + 1, none⟩), .string U, .agg #[.int .i64 kd, .string U, .slice none 0 0], undef, undef].getD pj undef) (PM wo.heap.size wo 11 #[.int .i64 kd, .string U, .slice none 0 0]) ?_ ?_ ?_ ?_ ?_
      · intro val
        exact ⟨(Below.refl _ _).drew, trivial⟩
      · intro ph val val' W hval hps
        refine ⟨hps.1, ?_⟩
        rcases ph with _ | _ | ph
        · trivial
        · obtain ⟨h, h1, h2⟩ := hps.2
          exact ⟨h, (hval 0 11 (by omega) rfl).symm.trans h1, h2⟩
        · obtain ⟨h, h1, h2⟩ := hps.2
          exact ⟨h, (hval 0 11 (by omega) rfl).symm.trans h1, h2⟩
      · intro i oo listed a' W val ph ho hic haf hS hF hbk hlm hps
        have hii : i < 13 := (Array.getElem?_eq_some_iff.1 ho).1
        obtain rfl | rfl | rfl | rfl | rfl | rfl | rfl | rfl | rfl | rfl | rfl | rfl | rfl : i = 0 ∨ i = 1 ∨ i = 2 ∨ i = 3 ∨ i = 4 ∨ i = 5 ∨ i = 6 ∨ i = 7 ∨ i = 8 ∨ i = 9 ∨ i = 10 ∨ i = 11 ∨ i = 12 := by omega
        · cases ho
          have q0 : a'.tmps[0]? = some (.slice (some ⟨g, o, none⟩) n c0) := (hS.tmpBase 0 (by kernel_rfl)).trans rfl
          refine op_valv (.slice (some ⟨g, o, none⟩) n c0) W (fun _ _ => trivial) ?_ ⟨rfl, rfl⟩
          rw [Oper.semAt_plain _ _ _ (by intro c h; cases h)]
          simp [execOp, q0, go_sem]
        · cases ho
          have q6 : a'.tmps[6]? = some (.int .i64 (k : Int)) := (hS.tmpBase 6 (by kernel_rfl)).trans rfl
          refine op_valv (.int .i64 (k : Int)) W (fun _ _ => trivial) ?_ ⟨rfl, rfl⟩
          rw [Oper.semAt_plain _ _ _ (by intro c h; cases h)]
          simp [execOp, q6, go_sem]
        · cases ho
          have l0 : listed.getD 0 false = true := haf ⟨0, .data⟩ (Array.mem_of_getElem? (i := 0) rfl) rfl
          have q15 : a'.tmps[15]? = some (val 0) := hS.tmpSet 0 _ 15 rfl rfl (by simp) l0
          rw [show val 0 = .slice (some ⟨g, o, none⟩) n c0 from hF 0 l0 (by decide)] at q15
          have l1 : listed.getD 1 false = true := haf ⟨1, .data⟩ (Array.mem_of_getElem? (i := 1) rfl) rfl
          have q16 : a'.tmps[16]? = some (val 1) := hS.tmpSet 1 _ 16 rfl rfl (by simp) l1
          rw [show val 1 = .int .i64 (k : Int) from hF 1 l1 (by decide)] at q16
          refine op_valv (.pointer (some ⟨g, o + k * 3, none⟩)) W (fun _ _ => trivial) ?_ ⟨rfl, rfl⟩
          rw [Oper.semAt_plain _ _ _ (by intro c h; cases h)]
          simp [execOp, q15, q16, hkn, go_sem]
        · cases ho
          have l2 : listed.getD 2 false = true := haf ⟨2, .data⟩ (Array.mem_of_getElem? (i := 0) rfl) rfl
          have q17 : a'.tmps[17]? = some (val 2) := hS.tmpSet 2 _ 17 rfl rfl (by simp) l2
          rw [show val 2 = .pointer (some ⟨g, o + k * 3, none⟩) from hF 2 l2 (by decide)] at q17
          refine op_valv (.pointer (some ⟨g, o + k * 3, none⟩)) W (fun _ _ => trivial) ?_ ⟨rfl, rfl⟩
          rw [Oper.semAt_plain _ _ _ (by intro c h; cases h)]
          simp [execOp, q17, go_sem]
        · cases ho
          have l3 : listed.getD 3 false = true := haf ⟨3, .data⟩ (Array.mem_of_getElem? (i := 0) rfl) rfl
          have q18 : a'.tmps[18]? = some (val 3) := hS.tmpSet 3 _ 18 rfl rfl (by simp) l3
          rw [show val 3 = .pointer (some ⟨g, o + k * 3, none⟩) from hF 3 l3 (by decide)] at q18
          obtain ⟨y0, y1, y2⟩ := HCX.out W (HWW.out W hps.1)
          refine op_valv (.int .i64 kd) W (fun _ _ => trivial) ?_ ⟨rfl, rfl⟩
          rw [Oper.semAt_plain _ _ _ (by intro c h; cases h)]
          simp [execOp, q18, y0, go_sem]
        · cases ho
          have q0 : a'.tmps[0]? = some (.slice (some ⟨g, o, none⟩) n c0) := (hS.tmpBase 0 (by kernel_rfl)).trans rfl
          refine op_valv (.slice (some ⟨g, o, none⟩) n c0) W (fun _ _ => trivial) ?_ ⟨rfl, rfl⟩
          rw [Oper.semAt_plain _ _ _ (by intro c h; cases h)]
          simp [execOp, q0, go_sem]
        · cases ho
          have q6 : a'.tmps[6]? = some (.int .i64 (k : Int)) := (hS.tmpBase 6 (by kernel_rfl)).trans rfl
          refine op_valv (.int .i64 (k : Int)) W (fun _ _ => trivial) ?_ ⟨rfl, rfl⟩
          rw [Oper.semAt_plain _ _ _ (by intro c h; cases h)]
          simp [execOp, q6, go_sem]
        · cases ho
          have l5 : listed.getD 5 false = true := haf ⟨5, .data⟩ (Array.mem_of_getElem? (i := 0) rfl) rfl
          have q20 : a'.tmps[20]? = some (val 5) := hS.tmpSet 5 _ 20 rfl rfl (by simp) l5
          rw [show val 5 = .slice (some ⟨g, o, none⟩) n c0 from hF 5 l5 (by decide)] at q20
          have l6 : listed.getD 6 false = true := haf ⟨6, .data⟩ (Array.mem_of_getElem? (i := 1) rfl) rfl
          have q21 : a'.tmps[21]? = some (val 6) := hS.tmpSet 6 _ 21 rfl rfl (by simp) l6
          rw [show val 6 = .int .i64 (k : Int) from hF 6 l6 (by decide)] at q21
          refine op_valv (.pointer (some ⟨g, o + k * 3, none⟩)) W (fun _ _ => trivial) ?_ ⟨rfl, rfl⟩
          rw [Oper.semAt_plain _ _ _ (by intro c h; cases h)]
          simp [execOp, q20, q21, hkn, go_sem]
        · cases ho
          have l7 : listed.getD 7 false = true := haf ⟨7, .data⟩ (Array.mem_of_getElem? (i := 0) rfl) rfl
          have q22 : a'.tmps[22]? = some (val 7) := hS.tmpSet 7 _ 22 rfl rfl (by simp) l7
          rw [show val 7 = .pointer (some ⟨g, o + k * 3, none⟩) from hF 7 l7 (by decide)] at q22
          refine op_valv (.pointer (some ⟨g, o + k * 3 + 1, none⟩)) W (fun _ _ => trivial) ?_ ⟨rfl, rfl⟩
          rw [Oper.semAt_plain _ _ _ (by intro c h; cases h)]
          simp [execOp, q22, go_sem]
        · cases ho
          have l8 : listed.getD 8 false = true := haf ⟨8, .data⟩ (Array.mem_of_getElem? (i := 0) rfl) rfl
          have q23 : a'.tmps[23]? = some (val 8) := hS.tmpSet 8 _ 23 rfl rfl (by simp) l8
          rw [show val 8 = .pointer (some ⟨g, o + k * 3 + 1, none⟩) from hF 8 l8 (by decide)] at q23
          obtain ⟨y0, y1, y2⟩ := HCX.out W (HWW.out W hps.1)
          refine op_valv (.string U) W (fun _ _ => trivial) ?_ ⟨rfl, rfl⟩
          rw [Oper.semAt_plain _ _ _ (by intro c h; cases h)]
          simp [execOp, q23, y1, go_sem]
        · cases ho
          have l4 : listed.getD 4 false = true := haf ⟨4, .data⟩ (Array.mem_of_getElem? (i := 0) rfl) rfl
          have q19 : a'.tmps[19]? = some (val 4) := hS.tmpSet 4 _ 19 rfl rfl (by simp) l4
          rw [show val 4 = .int .i64 kd from hF 4 l4 (by decide)] at q19
          have l9 : listed.getD 9 false = true := haf ⟨9, .data⟩ (Array.mem_of_getElem? (i := 1) rfl) rfl
          have q24 : a'.tmps[24]? = some (val 9) := hS.tmpSet 9 _ 24 rfl rfl (by simp) l9
          rw [show val 9 = .string U from hF 9 l9 (by decide)] at q24
          refine op_valv (.agg #[.int .i64 kd, .string U, .slice none 0 0]) W (fun _ _ => trivial) ?_ ⟨rfl, rfl⟩
          rw [Oper.semAt_plain _ _ _ (by intro c h; cases h)]
          simp [execOp, q19, q24, go_sem]
        · exact absurd (by decide) hic
        · exact absurd (by decide) hic
      · intro m i oo listed a' W val ho hmi haf hS hF hps
        have hmm : m < 2 := (List.getElem?_eq_some_iff.1 hmi).1
        obtain rfl | rfl : m = 0 ∨ m = 1 := by omega
        · cases hmi
          cases ho
          refine op_valv (.pointer (some ⟨W.heap.size, 0, none⟩)) (W.alloc (.cells #[.int .i64 0, .string ⟨#[]⟩, .slice none 0 0] 42)) (fun _ _ => trivial) ?_ ⟨hps.1.alloc hps.1.size _, W.heap.size, rfl, Row.new _ _ _, hps.1.size⟩
          rw [Oper.semAt_plain _ _ _ (by intro c h; cases h)]
          simp [execOp, go_sem]
        · cases hmi
          cases ho
          have l11 : listed.getD 11 false = true := haf ⟨11, .data⟩ (Array.mem_of_getElem? (i := 0) rfl) rfl
          have q7 : a'.tmps[7]? = some (val 11) := hS.tmpSet 11 _ 7 rfl rfl (by simp) l11
          have l10 : listed.getD 10 false = true := haf ⟨10, .data⟩ (Array.mem_of_getElem? (i := 1) rfl) rfl
          have q25 : a'.tmps[25]? = some (val 10) := hS.tmpSet 10 _ 25 rfl rfl (by simp) l10
          rw [show val 10 = .agg #[.int .i64 kd, .string U, .slice none 0 0] from hF 10 l10 (by decide)] at q25
          obtain ⟨hb, h, hv, hr, hB⟩ := hps
          have r1 : Row (W.setCell ⟨h, 0, none⟩ (.int .i64 kd)) h 42 #[.int .i64 kd, .string ⟨#[]⟩, .slice none 0 0] := hr.set 0 _
          have r2 : Row ((W.setCell ⟨h, 0, none⟩ (.int .i64 kd)).setCell ⟨h, 1, none⟩ (.string U)) h 42 #[.int .i64 kd, .string U, .slice none 0 0] := r1.set 1 _
          obtain ⟨x0, _, _, f0, _, _⟩ := node_cells hr
          obtain ⟨_, x1, _, _, f1, _⟩ := node_cells r1
          obtain ⟨_, _, x2, _, _, f2⟩ := node_cells r2
          rw [hv] at q7
          refine op_skipv _ (fun _ _ => trivial) ?_ ⟨((hb.setCell (p := ⟨h, 0, none⟩) hB _).setCell (p := ⟨h, 1, none⟩) hB _).setCell (p := ⟨h, 2, none⟩) hB _, h, hv, r2.set 2 (.slice none 0 0), hB⟩
          rw [Oper.semAt_plain _ _ _ (by intro c h; cases h)]
          simp [execOp, q7, q25, x0, x1, x2, f0, f1, f2, go_sem]
      · intro W5 val hps hF
        obtain ⟨hb5, h, hv, hr5, hB⟩ := hps
        have HB5 := Lib.hid hb5
        have HR5 := Lib.hid hr5
        simp only [finAct, List.getElem?_toArray, List.getElem?_cons_zero, List.getElem?_cons_succ, Act.put, List.setIfInBounds_toArray, List.set_cons_zero, List.set_cons_succ, List.size_toArray, List.length_cons, List.length_nil, Nat.reduceAdd]
        rw [hv]
        clear hb5 hr5 hF hv
        gi_wp2
        gi_loopw [8] (fun kk w' => ∃ (j : Nat) (q : Value), j ≤ K ∧ kk = .int .i64 j ∧ Row w' h 42 #[.int .i64 kd, .string U, q] ∧ IOwn w' wo.heap.size q ((x.kids.take j).map (· + b)) ∧ Below wo.heap.size wo w') (fun kk _ => K - (intOf kk).toNat)
        case atStart => exact ⟨0, _, Nat.zero_le _, rfl, HR5.out, IOwn.nil _ _, HB5.out⟩
        case round =>
          obtain ⟨j, q, hjK0, rfl, hr, hq, hBw⟩ := hrel
          have hql : ((x.kids.take j).map (· + b)).length = j := by rw [List.length_map, List.length_take, ← HK.out]; omega
          obtain ⟨qa, qc, rfl⟩ := own_form hq
          rw [hql] at hr
          have HQ : Hid (IOwn wr wo.heap.size (.slice qa j qc) ((x.kids.take j).map (· + b))) := Lib.hid (by
            have h9 := hq
            change World.ownsRow _ _ _ _ _ _ _ at h9
            show World.ownsRow _ _ _ _ _ _ _
            rw [hql] at h9 ⊢
            exact h9)
          have HQL := Lib.hid hql
          have HR := Lib.hid hr
          have HBW := Lib.hid hBw
          have y2 := (HCX.out wr (HWW.out _ hBw)).2.2
          clear hq hql
          by_cases hlt2 : j < K
          · obtain ⟨gk, ok, ck, hv, hgk, hck⟩ := HKL0.out.cells (by rw [← HK.out]; omega)
            rw [← HK.out] at hv
            obtain rfl : ka = some ⟨gk, ok, none⟩ := by injection hv
            obtain ⟨a, ha⟩ : ∃ a, x.kids[j]? = some a := ⟨_, List.getElem?_eq_getElem (by rw [← HK.out]; exact hlt2)⟩
            have hai := HXK.out.2 a (List.mem_of_getElem? ha)
            have hal := hai.1
            have har := hai.2
            have hjK : (j : Int) < (K : Int) := by omega
            have hab : IntKind.i64.wrap (a + b) = a + b := by rw [IntKind.wrap_i64]; omega
            have HCA : Hid (∀ W, Below w.heap.size w W → W.cell? ⟨gk, ok + j, none⟩ = some (.int .i64 a)) := Lib.hid (fun W hW => (hW.cell (p := ⟨gk, ok + j, none⟩) hgk).trans (hck j a ha))
            have HSN : Hid ((x.kids.take (j + 1)).map (· + b) = (x.kids.take j).map (· + b) ++ [a + b]) := Lib.hid (by rw [List.take_add_one, ha, List.map_append]; rfl)
            clear hv hgk hck ha hai hr hBw
            gi_wp2
            refine wpIn_region_chainC (by kernel_rfl) (by kernel_rfl) [12, 13, 15] (by kernel_rfl) (by decide) (by decide) (fun pj pv => pv = [(.pointer (some ⟨h, 2, none⟩) : Value), .slice qa j qc, .slice (some ⟨g, o, none⟩) n c0, .int .i64 (k : Int), .pointer (some ⟨g, o + k * 3, none⟩), .pointer (some ⟨g, o + k * 3 + 2, none⟩), .slice (some ⟨gk, ok, none⟩) K kc, .int .i64 (j : Int), .pointer (some ⟨gk, ok + j, none⟩), .int .i64 a, .int .i64 b, .int .i64 (a + b), undef, undef, .pointer (some ⟨h, 2, none⟩), undef].getD pj undef) (PV wo.heap.size wo h 12 13 kd U (.slice qa j qc) ((x.kids.take j).map (· + b)) (a + b)) ?_ ?_ ?_ ?_ ?_
            · intro val
              exact ⟨HBW.out.drew, HR.out.drew, HQ.out⟩
            · intro ph val val' W hval hps
              refine ⟨hps.1, ?_⟩
              rcases ph with _ | _ | _ | ph
              · exact hps.2
              · obtain ⟨h1, h2, s, h3, h4⟩ := hps.2
                exact ⟨h1, h2, s, (hval 0 12 (by omega) rfl).symm.trans h3, h4⟩
              · obtain ⟨h1, h2⟩ := hps.2
                refine ⟨h1, ?_⟩
                rw [← hval 1 13 (by omega) rfl]
                exact h2
              · exact hps.2
            · intro i oo listed a' W val ph ho hic haf hS hF hbk hlm hps
              have hii : i < 16 := (Array.getElem?_eq_some_iff.1 ho).1
              obtain rfl | rfl | rfl | rfl | rfl | rfl | rfl | rfl | rfl | rfl | rfl | rfl | rfl | rfl | rfl | rfl : i = 0 ∨ i = 1 ∨ i = 2 ∨ i = 3 ∨ i = 4 ∨ i = 5 ∨ i = 6 ∨ i = 7 ∨ i = 8 ∨ i = 9 ∨ i = 10 ∨ i = 11 ∨ i = 12 ∨ i = 13 ∨ i = 14 ∨ i = 15 := by omega
              · cases ho
                have q7 : a'.tmps[7]? = some (.pointer (some ⟨h, 0, none⟩)) := (hS.tmpBase 7 (by kernel_rfl)).trans rfl
                refine op_valv (.pointer (some ⟨h, 2, none⟩)) W (fun _ _ => trivial) ?_ ⟨rfl, rfl⟩
                rw [Oper.semAt_plain _ _ _ (by intro c h; cases h)]
                simp [execOp, q7, go_sem]
              · cases ho
                have l0 : listed.getD 0 false = true := haf ⟨0, .data⟩ (Array.mem_of_getElem? (i := 0) rfl) rfl
                have q36 : a'.tmps[36]? = some (val 0) := hS.tmpSet 0 _ 36 rfl rfl (by simp) l0
                rw [show val 0 = .pointer (some ⟨h, 2, none⟩) from hF 0 l0 (by decide)] at q36
                have hph : ph ≤ 1 := hbk 1 13 rfl (by kernel_rfl)
                have z2 : W.cell? ⟨h, 2, none⟩ = some (.slice qa j qc) := by
                  obtain rfl | rfl : ph = 0 ∨ ph = 1 := by omega
                  · exact (node_cells hps.2.1).2.2.1
                  · exact (node_cells hps.2.1).2.2.1
                refine op_valv (.slice qa j qc) W (fun _ _ => trivial) ?_ ⟨rfl, rfl⟩
                rw [Oper.semAt_plain _ _ _ (by intro c h; cases h)]
                simp [execOp, q36, z2, go_sem]
              · cases ho
                have q0 : a'.tmps[0]? = some (.slice (some ⟨g, o, none⟩) n c0) := (hS.tmpBase 0 (by kernel_rfl)).trans rfl
                refine op_valv (.slice (some ⟨g, o, none⟩) n c0) W (fun _ _ => trivial) ?_ ⟨rfl, rfl⟩
                rw [Oper.semAt_plain _ _ _ (by intro c h; cases h)]
                simp [execOp, q0, go_sem]
              · cases ho
                have q6 : a'.tmps[6]? = some (.int .i64 (k : Int)) := (hS.tmpBase 6 (by kernel_rfl)).trans rfl
                refine op_valv (.int .i64 (k : Int)) W (fun _ _ => trivial) ?_ ⟨rfl, rfl⟩
                rw [Oper.semAt_plain _ _ _ (by intro c h; cases h)]
                simp [execOp, q6, go_sem]
              · cases ho
                have l2 : listed.getD 2 false = true := haf ⟨2, .data⟩ (Array.mem_of_getElem? (i := 0) rfl) rfl
                have q38 : a'.tmps[38]? = some (val 2) := hS.tmpSet 2 _ 38 rfl rfl (by simp) l2
                rw [show val 2 = .slice (some ⟨g, o, none⟩) n c0 from hF 2 l2 (by decide)] at q38
                have l3 : listed.getD 3 false = true := haf ⟨3, .data⟩ (Array.mem_of_getElem? (i := 1) rfl) rfl
                have q39 : a'.tmps[39]? = some (val 3) := hS.tmpSet 3 _ 39 rfl rfl (by simp) l3
                rw [show val 3 = .int .i64 (k : Int) from hF 3 l3 (by decide)] at q39
                refine op_valv (.pointer (some ⟨g, o + k * 3, none⟩)) W (fun _ _ => trivial) ?_ ⟨rfl, rfl⟩
                rw [Oper.semAt_plain _ _ _ (by intro c h; cases h)]
                simp [execOp, q38, q39, hkn, go_sem]
              · cases ho
                have l4 : listed.getD 4 false = true := haf ⟨4, .data⟩ (Array.mem_of_getElem? (i := 0) rfl) rfl
                have q40 : a'.tmps[40]? = some (val 4) := hS.tmpSet 4 _ 40 rfl rfl (by simp) l4
                rw [show val 4 = .pointer (some ⟨g, o + k * 3, none⟩) from hF 4 l4 (by decide)] at q40
                refine op_valv (.pointer (some ⟨g, o + k * 3 + 2, none⟩)) W (fun _ _ => trivial) ?_ ⟨rfl, rfl⟩
                rw [Oper.semAt_plain _ _ _ (by intro c h; cases h)]
                simp [execOp, q40, go_sem]
              · cases ho
                have l5 : listed.getD 5 false = true := haf ⟨5, .data⟩ (Array.mem_of_getElem? (i := 0) rfl) rfl
                have q41 : a'.tmps[41]? = some (val 5) := hS.tmpSet 5 _ 41 rfl rfl (by simp) l5
                rw [show val 5 = .pointer (some ⟨g, o + k * 3 + 2, none⟩) from hF 5 l5 (by decide)] at q41
                obtain ⟨y0, y1, y2⟩ := HCX.out W (HWW.out W hps.1)
                refine op_valv (.slice (some ⟨gk, ok, none⟩) K kc) W (fun _ _ => trivial) ?_ ⟨rfl, rfl⟩
                rw [Oper.semAt_plain _ _ _ (by intro c h; cases h)]
                simp [execOp, q41, y2, go_sem]
              · cases ho
                have q8 : a'.tmps[8]? = some (.int .i64 (j : Int)) := (hS.tmpBase 8 (by kernel_rfl)).trans rfl
                refine op_valv (.int .i64 (j : Int)) W (fun _ _ => trivial) ?_ ⟨rfl, rfl⟩
                rw [Oper.semAt_plain _ _ _ (by intro c h; cases h)]
                simp [execOp, q8, go_sem]
              · cases ho
                have l6 : listed.getD 6 false = true := haf ⟨6, .data⟩ (Array.mem_of_getElem? (i := 0) rfl) rfl
                have q42 : a'.tmps[42]? = some (val 6) := hS.tmpSet 6 _ 42 rfl rfl (by simp) l6
                rw [show val 6 = .slice (some ⟨gk, ok, none⟩) K kc from hF 6 l6 (by decide)] at q42
                have l7 : listed.getD 7 false = true := haf ⟨7, .data⟩ (Array.mem_of_getElem? (i := 1) rfl) rfl
                have q43 : a'.tmps[43]? = some (val 7) := hS.tmpSet 7 _ 43 rfl rfl (by simp) l7
                rw [show val 7 = .int .i64 (j : Int) from hF 7 l7 (by decide)] at q43
                refine op_valv (.pointer (some ⟨gk, ok + j, none⟩)) W (fun _ _ => trivial) ?_ ⟨rfl, rfl⟩
                rw [Oper.semAt_plain _ _ _ (by intro c h; cases h)]
                simp [execOp, q42, q43, hjK, go_sem]
              · cases ho
                have l8 : listed.getD 8 false = true := haf ⟨8, .data⟩ (Array.mem_of_getElem? (i := 0) rfl) rfl
                have q44 : a'.tmps[44]? = some (val 8) := hS.tmpSet 8 _ 44 rfl rfl (by simp) l8
                rw [show val 8 = .pointer (some ⟨gk, ok + j, none⟩) from hF 8 l8 (by decide)] at q44
                have y3 := HCA.out W (HWW.out W hps.1)
                refine op_valv (.int .i64 a) W (fun _ _ => trivial) ?_ ⟨rfl, rfl⟩
                rw [Oper.semAt_plain _ _ _ (by intro c h; cases h)]
                simp [execOp, q44, y3, go_sem]
              · cases ho
                have q1 : a'.tmps[1]? = some (.int .i64 b) := (hS.tmpBase 1 (by kernel_rfl)).trans rfl
                refine op_valv (.int .i64 b) W (fun _ _ => trivial) ?_ ⟨rfl, rfl⟩
                rw [Oper.semAt_plain _ _ _ (by intro c h; cases h)]
                simp [execOp, q1, go_sem]
              · cases ho
                have l9 : listed.getD 9 false = true := haf ⟨9, .data⟩ (Array.mem_of_getElem? (i := 0) rfl) rfl
                have q45 : a'.tmps[45]? = some (val 9) := hS.tmpSet 9 _ 45 rfl rfl (by simp) l9
                rw [show val 9 = .int .i64 a from hF 9 l9 (by decide)] at q45
                have l10 : listed.getD 10 false = true := haf ⟨10, .data⟩ (Array.mem_of_getElem? (i := 1) rfl) rfl
                have q46 : a'.tmps[46]? = some (val 10) := hS.tmpSet 10 _ 46 rfl rfl (by simp) l10
                rw [show val 10 = .int .i64 b from hF 10 l10 (by decide)] at q46
                refine op_valv (.int .i64 (a + b)) W (fun _ _ => trivial) ?_ ⟨rfl, rfl⟩
                rw [Oper.semAt_plain _ _ _ (by intro c h; cases h)]
                simp [execOp, q45, q46, hab, go_sem]
              · exact absurd (by decide) hic
              · exact absurd (by decide) hic
              · cases ho
                have q7 : a'.tmps[7]? = some (.pointer (some ⟨h, 0, none⟩)) := (hS.tmpBase 7 (by kernel_rfl)).trans rfl
                refine op_valv (.pointer (some ⟨h, 2, none⟩)) W (fun _ _ => trivial) ?_ ⟨rfl, rfl⟩
                rw [Oper.semAt_plain _ _ _ (by intro c h; cases h)]
                simp [execOp, q7, go_sem]
              · exact absurd (by decide) hic
            · intro m i oo listed a' W val ho hmi haf hS hF hps
              have hmm : m < 3 := (List.getElem?_eq_some_iff.1 hmi).1
              obtain rfl | rfl | rfl : m = 0 ∨ m = 1 ∨ m = 2 := by omega
              · cases hmi
                cases ho
                have l11 : listed.getD 11 false = true := haf ⟨11, .data⟩ (Array.mem_of_getElem? (i := 0) rfl) rfl
                have q47 : a'.tmps[47]? = some (val 11) := hS.tmpSet 11 _ 47 rfl rfl (by simp) l11
                rw [show val 11 = .int .i64 (a + b) from hF 11 l11 (by decide)] at q47
                refine op_valv (.slice (some ⟨W.heap.size, 0, none⟩) 1 1) (W.alloc (.cells #[.int .i64 (a + b)] 3)) (fun _ _ => trivial) ?_ ⟨hps.1.alloc hps.1.size _, hps.2.1.alloc _, own_kept hps.2.2 ((Below.refl _ W).alloc (Nat.le_refl _) _), W.heap.size, rfl, Row.new _ _ _⟩
                rw [Oper.semAt_plain _ _ _ (by intro c h; cases h)]
                simp [execOp, q47, go_sem]
              · cases hmi
                cases ho
                have l1 : listed.getD 1 false = true := haf ⟨1, .data⟩ (Array.mem_of_getElem? (i := 0) rfl) rfl
                have q37 : a'.tmps[37]? = some (val 1) := hS.tmpSet 1 _ 37 rfl rfl (by simp) l1
                rw [show val 1 = .slice qa j qc from hF 1 l1 (by decide)] at q37
                have l12 : listed.getD 12 false = true := haf ⟨12, .data⟩ (Array.mem_of_getElem? (i := 1) rfl) rfl
                have q48 : a'.tmps[48]? = some (val 12) := hS.tmpSet 12 _ 48 rfl rfl (by simp) l12
                obtain ⟨hb, hr, ho, s, hs, hrs⟩ := hps
                rw [hs] at q48
                obtain ⟨v5, w5, hrun, ho5, hg⟩ := run_append_kl (ty := 40) ho (u := .slice (some ⟨s, 0, none⟩) 1 1) (A := [a + b]) ⟨⟨_, _, rfl, Nat.le_refl _, by decide⟩, fun _ => ⟨s, 0, 1, rfl, hrs.lt, fun i y hi => by
                  obtain rfl : i = 0 := by have := (List.getElem?_eq_some_iff.1 hi).1; simpa using this
                  cases hi
                  exact hrs.cell 0⟩⟩ (by rw [HQL.out]; simp only [List.length_cons, List.length_nil]; omega) hb.size
                refine op_valv v5 w5 (fun _ _ => trivial) ?_ ⟨below_grown2 hb hb.size hg (fun g e => (World.ownsRow.lt ho g e).1), row_grown hr hg (fun e => own_off ho hr (by decide) e), ho5⟩
                have e1 : a'.eval (.tmp 37) = .slice qa j qc := by simp [q37, go_sem]
                have e2 : a'.eval (.tmp 48) = .slice (some ⟨s, 0, none⟩) 1 1 := by simp [q48, go_sem]
                rw [Oper.semAt_plain _ _ _ (by intro c h; cases h)]
                simp [execOp, resolve, invoke, builtin, e1, e2, hrun, Result.andThen]
              · cases hmi
                cases ho
                have l14 : listed.getD 14 false = true := haf ⟨14, .data⟩ (Array.mem_of_getElem? (i := 0) rfl) rfl
                have q50 : a'.tmps[50]? = some (val 14) := hS.tmpSet 14 _ 50 rfl rfl (by simp) l14
                rw [show val 14 = .pointer (some ⟨h, 2, none⟩) from hF 14 l14 (by decide)] at q50
                have l13 : listed.getD 13 false = true := haf ⟨13, .data⟩ (Array.mem_of_getElem? (i := 1) rfl) rfl
                have q49 : a'.tmps[49]? = some (val 13) := hS.tmpSet 13 _ 49 rfl rfl (by simp) l13
                obtain ⟨hb, hr, ho⟩ := hps
                obtain ⟨v5, hv5⟩ : ∃ v5, v5 = val 13 := ⟨_, rfl⟩
                rw [← hv5] at ho q49
                obtain ⟨a5, c5, rfl⟩ := own_form ho
                obtain ⟨_, _, z2, _, _, f2⟩ := node_cells hr
                refine op_skipv (W.setCell ⟨h, 2, none⟩ (.slice a5 (((x.kids.take j).map (· + b)) ++ [a + b]).length c5)) (fun _ _ => trivial) ?_ ⟨hb.setCell (p := ⟨h, 2, none⟩) hB _, _, hr.set 2 _, World.ownsRow.kept ho (grown_set _ _ _ _) (.inr (fun e => own_off ho hr (by decide) e))⟩
                rw [Oper.semAt_plain _ _ _ (by intro c h; cases h)]
                simp [execOp, q50, q49, z2, f2, go_sem]
            · intro W6 val6 hps6 hF6
              obtain ⟨hb6, q, hr6, ho6⟩ := hps6
              have HB6 := Lib.hid hb6
              have HR6 := Lib.hid hr6
              have HO6 := Lib.hid ho6
              simp only [finAct, List.getElem?_toArray, List.getElem?_cons_zero, List.getElem?_cons_succ, Act.put, List.setIfInBounds_toArray, List.set_cons_zero, List.set_cons_succ, List.size_toArray, List.length_cons, List.length_nil, Nat.reduceAdd]
              clear hb6 hr6 ho6 hF6 y2
              gi_wp2
              go_roundw
              case rel => exact ⟨j + 1, q, by omega, by go_num, HR6.out, by rw [HSN.out]; exact HO6.out, HB6.out⟩
              case measure => simp [intOf]; omega
          · obtain rfl : j = K := by omega
            obtain ⟨z0, z1, z2, _, _, _⟩ := node_cells hr
            have hLl : L.length = k := by
              have := congrArg List.length HL.out
              rw [List.length_map, List.length_map, List.length_take, ← HN.out] at this
              omega
            have HON := Lib.hid ((HO.out.below hBw).row)
            have H1 : Hid (∀ (i : Nat) (u : Value), [Value.int .i64 kd, .string U, .slice qa j qc][i]? = some u → (wr.alloc (.cells #[.int .i64 kd, .string U, .slice qa j qc] 42)).cell? ((⟨wr.heap.size, 0, none⟩ : Addr).add i) = some u) := Lib.hid (World.news_of_block (World.alloc_heap_new wr (.cells #[.int .i64 kd, .string U, .slice qa j qc] 42)))
            have H5 : Hid (w.heap.size ≤ (wr.alloc (.cells #[.int .i64 kd, .string U, .slice qa j qc] 42)).heap.size) := Lib.hid (by rw [World.size_alloc]; have := hBw.size; omega)
            have H4 : Hid (L.length + 1 ≤ maxLen ∧ (L.length + 1) * 48 ≤ 140737488355328) := Lib.hid ⟨by unfold maxLen; omega, by omega⟩
            have HTK : Hid (x.kids.take j = x.kids) := Lib.hid (by rw [HK.out, List.take_length])
            clear hLl hr hBw
            gi_wp2_with (gi_at_builtin; refine wpListIn_append_own _ rfl (.tmp 51) (.tmp 53) 22 rfl w.heap.size 42 i2 (.agg #[.int .i64 0, .string ⟨#[]⟩, .slice none 0 0]) 3 48 Tryd.underlying22 hj hy0 hy1 hy2 rfl (by decide) u5 L.length (cellsN L) rfl (HON.out.alloc _) ⟨wr.heap.size, 0, none⟩ 1 1 [.int .i64 kd, .string U, .slice qa j qc] rfl rfl H1.out (by simp [Value.oneCell']) H4.out.1 H4.out.2 H5.out ?_; intro v7 w7 ho7 hg7 _; have HO7 := Lib.hid ho7; have HG7 := Lib.hid hg7; clear ho7 hg7)
            go_roundw
            case rel =>
              have hb7 := HBW.out.alloc HBW.out.size (.cells #[.int .i64 kd, .string U, .slice qa j qc] 42)
              have ho6 := own_kept HQ.out ((Below.refl _ wr).alloc (Nat.le_refl _) (.cells #[.int .i64 kd, .string U, .slice qa j qc] 42))
              have hO6 := HO.out.below hb7
              rw [HTK.out] at ho6
              refine ⟨k + 1, L ++ [(movN b x, .slice qa j qc)], by omega, by go_num, hO6.grow HG7.out ?_ ?_, ?_, ?_⟩
              · rw [List.length_append, cellsN_snoc, HNOD.out]
                exact HO7.out
              · intro p hp
                obtain rfl := List.mem_singleton.1 hp
                exact own_mono ho6 hbs
              · rw [List.map_append, HL.out, List.take_add_one, HX.out, List.map_append]
                rfl
              · exact below_grown2 (HWW.out _ hb7) (HWW.out _ hb7).size HG7.out (fun i e => (HON.out.lt i e).1)
            case measure => simp [intOf]; omega
    · have HE : Hid (L.map (·.1) = T.map (movN b)) := Lib.hid (by
        rw [HL.out]
        rw [List.take_of_length_le (by rw [← HN.out]; omega)])
      obtain rfl : k = n := by omega
      clear hB hlt
      gi_wp2
      refine bodyPost_ret (v := u5) (by simp [results, Tryd.f41, go_sem]) rfl ⟨HB.out, u5, L, rfl, HO.out, HE.out⟩
end Go.Proofs.YtbegplfijjbpcaaDoor.No
