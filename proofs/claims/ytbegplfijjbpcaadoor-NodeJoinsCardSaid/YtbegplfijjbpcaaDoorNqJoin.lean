/- The program: trees are joined. -/
import Derived.Test.YtbegplfijjbpcaaDoorNqCheck
import Derived.Test.YtbegplfijjbpcaaDoorNqPut
import Derived.Test.YtbegplfijjbpcaaDoorNqB
import Derived.WalkMore
import Derived.ScopeJumps
namespace Go.Proofs.YtbegplfijjbpcaaDoor.No
open Go Go.RowKit Go.Shelf
attribute [local go_sem] Oper.semAt_some

/-- Lists of nodes in memory, wherever they begin. -/
structure LL (W : World) (v : Value) (KS : List (List Nd)) : Prop where
  form : ∃ a0 c0, v = .slice a0 KS.length c0 ∧ KS.length ≤ c0 ∧ c0 ≤ maxLen
  cells : 0 < KS.length → ∃ g o c0, v = .slice (some ⟨g, o, none⟩) KS.length c0 ∧ g < W.heap.size ∧ ∀ j K, KS[j]? = some K → ∃ u, W.cell? ⟨g, o + j, none⟩ = some u ∧ NL W u K
theorem LL.below {W W' : World} {v : Value} {KS : List (List Nd)} (h : LL W v KS) (hb : Below W.heap.size W W') : LL W' v KS := by
  refine ⟨h.form, fun h0 => ?_⟩
  obtain ⟨g, o, c0, hv, hg, hc⟩ := h.cells h0
  refine ⟨g, o, c0, hv, Nat.lt_of_lt_of_le hg hb.size, fun j K hj => ?_⟩
  obtain ⟨u, h1, h2⟩ := hc j K hj
  exact ⟨u, (hb.cell (p := ⟨g, o + j, none⟩) hg).trans h1, h2.below hb⟩
theorem LL.nil (W : World) : LL W (.slice none 0 0) [] := ⟨⟨none, 0, rfl, Nat.le_refl _, Nat.zero_le _⟩, fun h => by simp at h⟩
theorem BD.mono {W : World} {base base' bb q r cap total : Nat} {L : List (Nd × Value)} {u : Nat} (h : BD W base bb q r cap total L u) (hb : base' ≤ base) : BD W base' bb q r cap total L u := by
  have h1 := h.bb
  have h2 := h.rb
  exact ⟨h.row, own_mono h.nodes hb, h.room, by omega, by omega, h.used, h.few⟩
theorem BD.q_le {W : World} {base bb q r cap total : Nat} {L : List (Nd × Value)} {u : Nat} (h : BD W base bb q r cap total L u) : base ≤ q := (h.nodes.lt q rfl).1
theorem BD.lts {W : World} {base bb q r cap total : Nat} {L : List (Nd × Value)} {u : Nat} (h : BD W base bb q r cap total L u) : bb < W.heap.size ∧ q < W.heap.size ∧ r < W.heap.size := by
  obtain ⟨_, h1, _⟩ := h.row
  obtain ⟨_, h2, _⟩ := h.room
  exact ⟨h1.lt, (h.nodes.lt q rfl).2, h2.lt⟩
theorem roots_in : ∀ (KS : List (List Nd)) (off : Nat), ∀ a ∈ rootsL KS off, -1 ≤ a ∧ a < ((off + lens KS : Nat) : Int)
  | [], _, a, h => by cases h
  | K :: KS, off, a, h => by
    have e : lens (K :: KS) = K.length + lens KS := by
      unfold lens
      rw [List.map_cons, sumL_cons]
    rcases List.mem_cons.1 h with rfl | h
    · omega
    · have := roots_in KS (off + K.length) a h
      omega
theorem BD.kids {W : World} {base bb q r cap total : Nat} {L : List (Nd × Value)} {u : Nat} (h : BD W base bb q r cap total L u) : ∀ x ∈ L.map (·.1), x.kids.length ≤ 1000000 := by
  intro x hx
  obtain ⟨p, hp, rfl⟩ := List.mem_map.1 hx
  obtain ⟨cs, _, _, hk⟩ := h.room
  have h1 := h.used
  have h2 := h.few
  rcases hk p hp with ⟨e, _⟩ | ⟨off, _, _, e, _⟩
  · rw [e]; exact Nat.zero_le _
  · omega
/-- put, where what is put lies ahead of the builder. -/
theorem put_nl (w0 W : World) (bb q r cap total : Nat) (L : List (Nd × Value)) (u : Nat) (more : Int) (v : Value) (T : List Nd) (hB : BD W w0.heap.size bb q r cap total L u) (h0 : Below w0.heap.size w0 W) (hT : NL w0 v T)
    (hc : L.length + T.length ≤ cap) (hr : u + (allKids T).length ≤ total) (hk : ∀ x ∈ T, ∀ a ∈ x.kids, -1000000 ≤ a ∧ a ≤ 1000000) (hm1 : -1000000 ≤ more) (hm2 : more ≤ 1000000) (ht : ∀ x ∈ T, x.text.length ≤ 10000000) :
    Calls Tryd.prog 55 #[.pointer (some ⟨bb, 0, none⟩), .int .i64 more, v] W fun e W' => (∃ v, e = .returned v) ∧ Below w0.heap.size w0 W' ∧ ∃ M, M.map (·.1) = T.map (movN more) ∧ BD W' w0.heap.size bb q r cap total (L ++ M) (u + (allKids T).length) := by
  obtain ⟨a0, c0, kv, rfl, h1, h2, hl⟩ := hT.lies
  refine (put_c W w0.heap.size bb q r cap total L u more a0 c0 T kv hB (fun h => ?_) hc hr h1 h2 hk hm1 hm2 ht).mono ?_
  · obtain ⟨g, o, e, hg, hL⟩ := hl h
    exact ⟨g, o, e, fun W' hW => hL.below rfl (hW.below h0 h0.size hB.bb hB.q_le hB.rb) hg⟩
  · rintro e W' ⟨he, hK, hM⟩
    exact ⟨he, hK.below h0 h0.size hB.bb hB.q_le hB.rb, hM⟩

def JJ (w : World) (kind : Int) (text : List UInt8) (KS : List (List Nd)) (a' : Act) (W : World) : Prop := ∃ (u0 u1 u2 u3 u4 u5 u6 u7 u8 u10 u11 u12 u13 u14 u15 u16 u17 u18 u19 u20 u21 u22 u23 u24 u25 u26 u27 u28 u29 u30 u31 u32 u33 u34 u35 u36 u37 u38 u39 u40 u41 u42 u43 u44 u45 u46 u47 u48 u49 u50 u51 u52 u53 u54 u55 u56 u57 u58 u59 u60 u61 u62 u63 u64 u65 u66 u67 u68 u69 u70 u71 u72 u73 u74 u75 u76 u77 u78 u79 u80 u81 u82 : Value) (p : Int) (s : ByteArray), a' = { tmps := #[u0, u1, u2, u3, u4, u5, u6, u7, u8, wrongV p s, u10, u11, u12, u13, u14, u15, u16, u17, u18, u19, u20, u21, u22, u23, u24, u25, u26, u27, u28, u29, u30, u31, u32, u33, u34, u35, u36, u37, u38, u39, u40, u41, u42, u43, u44, u45, u46, u47, u48, u49, u50, u51, u52, u53, u54, u55, u56, u57, u58, u59, u60, u61, u62, u63, u64, u65, u66, u67, u68, u69, u70, u71, u72, u73, u74, u75, u76, u77, u78, u79, u80, u81, u82], defers := [] } ∧ Below w.heap.size w W ∧ joinA kind text KS = ([], 70)
set_option maxRecDepth 100000 in
set_option maxHeartbeats 16000000 in
/-- join(kind, text, kids). -/
theorem join_c (w : World) (kind : Int) (text : List UInt8) (v : Value) (KS : List (List Nd)) (hv : LL w v KS) (hKS : KS.length ≤ 1000) (htx : text.length ≤ 10000000) (hkk : ∀ K ∈ KS, ∀ x ∈ K, x.kids.length ≤ 1000000 ∧ x.text.length ≤ 10000000) :
    Calls Tryd.prog 39 #[.int .i64 kind, .string (bs text), v] w fun e W' => Below w.heap.size w W' ∧
      ((∃ bb q r cap total L u, e = .returned (.tuple #[.slice (some ⟨q, 0, none⟩) L.length cap, .nilIface]) ∧ BD W' w.heap.size bb q r cap total L u ∧ joinA kind text KS = (L.map (·.1), 0)) ∨
       (joinA kind text KS = ([], 70) ∧ ∃ p s, e = .returned (.tuple #[.slice none 0 0, wrongV p s]))) := by
  obtain ⟨i0, hi, hz0, hz1, hz2⟩ := infoI
  obtain ⟨a0, c0, rfl, hc1, hc2⟩ := hv.form
  obtain ⟨n, hn⟩ : ∃ n, n = KS.length := ⟨_, rfl⟩
  have HV := Lib.hid hv.cells
  rw [← hn] at hc1 hKS HV ⊢
  unfold maxLen at hc2
  have HN := Lib.hid hn
  have HKK := Lib.hid hkk
  obtain ⟨S, hS⟩ : ∃ s, s = bs text := ⟨_, rfl⟩
  rw [← hS]
  have HS := Lib.hid hS
  have HTX := Lib.hid htx
  clear hv hn hkk hS htx
  go_enter Tryd.func39, Tryd.ntmps39
  go_wp2
  refine wp_scope_jumps 0 (JJ w kind text KS) (fun _ _ => 0) rfl ?first ?pass
  case pass =>
    rintro a' W HJ
    unfold JJ at HJ
    obtain ⟨u0, u1, u2, u3, u4, u5, u6, u7, u8, u10, u11, u12, u13, u14, u15, u16, u17, u18, u19, u20, u21, u22, u23, u24, u25, u26, u27, u28, u29, u30, u31, u32, u33, u34, u35, u36, u37, u38, u39, u40, u41, u42, u43, u44, u45, u46, u47, u48, u49, u50, u51, u52, u53, u54, u55, u56, u57, u58, u59, u60, u61, u62, u63, u64, u65, u66, u67, u68, u69, u70, u71, u72, u73, u74, u75, u76, u77, u78, u79, u80, u81, u82, p, s, rfl, hB, hno⟩ := HJ
    have HB := Lib.hid hB
    have HNO := Lib.hid hno
    clear hB hno
    go_wp2
    simp only [Exit.jump]
    refine bodyPost_ret (v := .tuple #[.slice none 0 0, wrongV p s]) (by simp [results, Tryd.f39, go_sem]) rfl ⟨HB.out, .inr ⟨HNO.out, p, s, rfl⟩⟩
  case first =>
    go_wp2
    go_loopw [11, 21] (fun sz ix wr => ∃ (i : Nat) (kv : Value), i ≤ n ∧ ix = .int .i64 i ∧ sz = .int .i64 (1 + ((lens (KS.take i) : Nat) : Int)) ∧ lens (KS.take i) ≤ 399 ∧ (∀ K ∈ KS.take i, RightT K) ∧ Row wr w.heap.size 42 #[.int .i64 kind, .string S, kv] ∧ IOwn wr (w.heap.size + 1) kv (rootsL (KS.take i) 0) ∧ Below w.heap.size w wr)
      (fun _ ix _ => n - (intOf ix).toNat)
    case atStart => exact ⟨0, .slice none 0 0, Nat.zero_le _, rfl, rfl, Nat.zero_le _, fun K h => by simp at h, Row.new _ _ _, IOwn.nil _ _, (Below.refl _ w).alloc (Nat.le_refl _) _⟩
    case round =>
      obtain ⟨i, kv, hin, rfl, rfl, hz, hRT, hR, hO, hB⟩ := hrel
      have HRT := Lib.hid hRT
      have HR := Lib.hid hR
      have HO := Lib.hid hO
      have HB := Lib.hid hB
      obtain ⟨z, hzz⟩ : ∃ z, z = lens (KS.take i) := ⟨_, rfl⟩
      rw [← hzz] at hz ⊢
      have HZ := Lib.hid hzz
      clear hRT hR hO hB hzz
      by_cases hlt : i < n
      · obtain ⟨g, o, c1, hv, hg, hcs⟩ := HV.out (by omega)
        obtain rfl : a0 = some ⟨g, o, none⟩ := by injection hv
        obtain ⟨K, hK⟩ : ∃ K, KS[i]? = some K := ⟨_, List.getElem?_eq_getElem (by rw [← HN.out]; exact hlt)⟩
        obtain ⟨u, hu, hNL⟩ := hcs i K hK
        have hNL2 := hNL.below HB.out
        have x0 := (HB.out.cell (p := ⟨g, o + i, none⟩) hg).trans hu
        obtain ⟨ka, kc, rfl, hk1, hk2⟩ := hNL.form
        have HCK := Lib.hid (check_c wr _ K hNL2 (fun x hx => (HKK.out K (List.mem_of_getElem? hK) x hx).1))
        obtain ⟨k, hk⟩ : ∃ k, k = K.length := ⟨_, rfl⟩
        rw [← hk] at HCK x0 hk1
        have HK := Lib.hid hK
        have HKL := Lib.hid hk
        have HVC := Lib.hid hcs
        clear hK hk hNL hNL2 hu hcs hv
        go_wp2_with fail
        refine HCK.out.mono ?_
        rintro e w1 ⟨hb1, hres⟩
        have HB1 := Lib.hid (HB.out.trans (hb1.mono HB.out.size))
        have HR1 := Lib.hid (HR.out.below hb1 HR.out.lt)
        have HO1 := Lib.hid (own_kept HO.out hb1)
        clear hb1
        rcases hres with ⟨hrb, rfl⟩ | ⟨hrb, pa, ps, rfl⟩
        · have hRK := (right_iff K).1 hrb
          have hk0 := hRK.pos
          have hk4 := hRK.max
          rw [← HKL.out] at hk0 hk4
          have HRK := Lib.hid hRK
          clear hrb hRK
          have hzk := lens_take HK.out
          rw [← HZ.out, ← HKL.out] at hzk
          have HZK := Lib.hid hzk
          clear hzk
          by_cases h4 : (400 : Int) < 1 + (z : Int) + (k : Int)
          · go_wp2
            go_step3
            refine ⟨rfl, ?_⟩
            unfold JJ
            exact ⟨_, _, _, _, _, _, _, _, _, _, _, _, _, _, _, _, _, _, _, _, _, _, _, _, _, _, _, _, _, _, _, _, _, _, _, _, _, _, _, _, _, _, _, _, _, _, _, _, _, _, _, _, _, _, _, _, _, _, _, _, _, _, _, _, _, _, _, _, _, _, _, _, _, _, _, _, _, _, _, _, _, _, _, _, rfl, HB1.out, join_long (by have := lens_le KS (i + 1); have := HZK.out; omega)⟩
          · have hzk4 : z + k ≤ 399 := by omega
            have HRO := Lib.hid (roots_take HK.out)
            rw [← HZ.out, ← HKL.out] at HRO
            have H1 : Hid (∀ (W : World) (j : Nat) (u : Value), [Value.int .i64 (1 + (z : Int) + (k : Int) - 2)][j]? = some u → (W.alloc (.cells #[.int .i64 (1 + (z : Int) + (k : Int) - 2)] 3)).cell? ((⟨W.heap.size, 0, none⟩ : Addr).add j) = some u) :=
              Lib.hid (fun W => World.news_of_block (World.alloc_heap_new W (.cells #[.int .i64 (1 + (z : Int) + (k : Int) - 2)] 3)))
            have H2 : Hid (∀ u ∈ [Value.int .i64 (1 + (z : Int) + (k : Int) - 2)], u.oneCell' = true) := Lib.hid (by intro u hu; simp at hu; subst hu; rfl)
            have hrl : (rootsL (KS.take i) 0).length = i := by rw [roots_len, List.length_take, ← HN.out]; omega
            have H3 : Hid ((rootsL (KS.take i) 0).length + 1 ≤ maxLen ∧ ((rootsL (KS.take i) 0).length + 1) * 8 ≤ 140737488355328) := Lib.hid (by rw [hrl]; exact ⟨by unfold maxLen; omega, by omega⟩)
            have HS5 : Hid (w.heap.size + 1 ≤ (w1.alloc (.cells #[.int .i64 (1 + (z : Int) + (k : Int) - 2)] 3)).heap.size) := Lib.hid (by have := HR1.out.lt; rw [World.size_alloc]; omega)
            have cK := HR1.out.cell 2
            simp only [List.getElem?_toArray, List.getElem?_cons_zero, List.getElem?_cons_succ] at cK
            clear hrl
            go_wp2_with (at_builtin; refine wpList_append_lies _ rfl (.tmp 41) (.tmp 44) 40 rfl (w.heap.size + 1) 3 i0 (.int .i64 0) 1 8 Tryd.underlying40 hi hz0 hz1 hz2 rfl (by decide) kv (rootsL (KS.take i) 0).length (nums (rootsL (KS.take i) 0)) rfl (HO1.out.alloc _) ⟨w1.heap.size, 0, none⟩ 1 1 [.int .i64 (1 + (z : Int) + (k : Int) - 2)] rfl rfl (H1.out w1) H2.out (by decide) H3.out.1 H3.out.2 HS5.out _ rfl ?_; intro g2 cap2 w3 hown2 hgrow2 hat2 hlt2; have HO3 := Lib.hid hown2; have HB3 := Lib.hid ((HB1.out.alloc HB1.out.size _).grown hgrow2 (by have := HS5.out; omega) (fun j ej => by have := (HO1.out.lt j ej).1; omega)); have HR3 := Lib.hid (row_grown (HR1.out.alloc _) hgrow2 (fun e => by have := (HO1.out.lt _ e).1; omega)); have c2 := HR3.out.cell 2; have f2 := HR3.out.frozen 2; simp only [List.getElem?_toArray, List.getElem?_cons_zero, List.getElem?_cons_succ] at c2; clear hown2 hgrow2 hat2 hlt2)
            go_roundw
            case rel =>
              have hgne : w.heap.size ≠ g2 := fun e => by have := (HO3.out.lt g2 rfl).1; omega
              refine ⟨i + 1, .slice (some ⟨g2, 0, none⟩) ((rootsL (KS.take i) 0).length + 1) cap2, by omega, by go_num, congrArg (Value.int .i64) (by have := HZK.out; omega), by have := HZK.out; omega, ?_, ?_, ?_, ?_⟩
              · intro A hA
                rw [List.take_add_one, HK.out] at hA
                rcases List.mem_append.1 hA with h | h
                · exact HRT.out A h
                · simp at h
                  subst h
                  exact HRK.out
              · exact HR3.out.set 2 _
              · have e : (1 + (z : Int) + (k : Int) - 2) = ((z + k : Nat) : Int) - 1 := by omega
                have hO4 : World.ownsRow _ _ _ _ _ _ _ := World.ownsRow.kept HO3.out (grown_set w3 w.heap.size 2 (.slice (some ⟨g2, 0, none⟩) ((rootsL (KS.take i) 0).length + 1) cap2)) (.inr (fun e => hgne (by simpa [Value.ownBlock] using e.symm)))
                show World.ownsRow _ _ _ _ _ _ _
                rw [HRO.out, List.length_append, List.length_singleton, nums_snoc, ← e]
                exact hO4
              · exact below_grown HB3.out HB3.out.size (grown_set w3 w.heap.size 2 _) (Nat.le_refl _)
            case measure => simp [intOf]; omega
        · have HNO := Lib.hid (join_bad (kind := kind) (text := text) (List.mem_of_getElem? HK.out) hrb)
          unfold wrongV
          go_wp2
          go_step3
          refine ⟨rfl, ?_⟩
          unfold JJ
          exact ⟨_, _, _, _, _, _, _, _, _, _, _, _, _, _, _, _, _, _, _, _, _, _, _, _, _, _, _, _, _, _, _, _, _, _, _, _, _, _, _, _, _, _, _, _, _, _, _, _, _, _, _, _, _, _, _, _, _, _, _, _, _, _, _, _, _, _, _, _, _, _, _, _, _, _, _, _, _, _, _, _, _, _, _, _, rfl, HB1.out, HNO.out⟩
      · obtain rfl : n = i := by omega
        obtain ⟨w0, rfl⟩ : ∃ x, x = wr := ⟨_, rfl⟩
        have htk : KS.take n = KS := by rw [HN.out]; exact List.take_length
        rw [htk] at HZ HO HRT
        have HBU := Lib.hid (build_c w0 (1 + z) (by omega) (by omega))
        have e1 : (1 + (z : Int)) = ((1 + z : Nat) : Int) := by omega
        rw [e1]
        clear htk e1
        go_wp2_with (go_at_call 54; refine HBU.out.mono ?_; rintro e w1 ⟨hb1, bb, q, r, rfl, hBD⟩; have HBD0 := Lib.hid hBD; have HB1 := Lib.hid hb1; clear hb1 hBD HBU)
        go_loopw [52] (fun ix X => ∃ (i : Nat) (L : List (Nd × Value)), i ≤ n ∧ ix = .int .i64 i ∧ BD X w0.heap.size bb q r (1 + z) (1 + z - 1) L (kidsN (KS.take i)) ∧ L.map (·.1) = partsL (KS.take i) 0 ∧ Below w0.heap.size w0 X)
          (fun ix _ => n - (intOf ix).toNat)
        case atStart => exact ⟨0, [], Nat.zero_le _, rfl, HBD0.out, rfl, HB1.out⟩
        case round =>
          obtain ⟨i, L, hi2, rfl, hBD, hL, hBX⟩ := hrel
          have HBD := Lib.hid hBD
          have HL := Lib.hid hL
          have HBX := Lib.hid hBX
          obtain ⟨ro, rowB, _⟩ := hBD.row
          have cB := rowB.cell 0
          simp only [List.getElem?_toArray, List.getElem?_cons_zero] at cB
          have hLN : L.length = lens (KS.take i) := by have := congrArg List.length hL; rw [List.length_map, parts_length] at this; exact this
          have HLN := Lib.hid hLN
          obtain ⟨ln, hln⟩ : ∃ ln, ln = L.length := ⟨_, rfl⟩
          rw [← hln] at cB
          have HLL := Lib.hid hln
          have hll : ln ≤ 399 := by have := lens_le KS i; have := HZ.out; omega
          clear hBD hL hBX rowB hLN hln
          by_cases hlt : i < n
          · obtain ⟨g, o, c1, hv, hg, hcs⟩ := HV.out (by omega)
            obtain rfl : a0 = some ⟨g, o, none⟩ := by injection hv
            obtain ⟨K, hK⟩ : ∃ K, KS[i]? = some K := ⟨_, List.getElem?_eq_getElem (by rw [← HN.out]; exact hlt)⟩
            obtain ⟨u, hu, hNL⟩ := hcs i K hK
            have hNL2 := hNL.below HB.out
            have x1 := (HB.out.cell (p := ⟨g, o + i, none⟩) hg).trans hu
            have x0 := (HBX.out.cell (p := ⟨g, o + i, none⟩) (Nat.lt_of_lt_of_le hg HB.out.size)).trans x1
            have hKR := HRT.out K (List.mem_of_getElem? hK)
            have hz1' := lens_take hK
            have hz2' := lens_le KS (i + 1)
            have hq1 := kidsN_take hK
            have hq2 := kidsN_le KS (i + 1)
            have hq3 := kidsN_right KS HRT.out
            have hP := put_nl w0 wr bb q r (1 + z) (1 + z - 1) L (kidsN (KS.take i)) (ln : Int) u K HBD.out HBX.out hNL2 (by have := HLN.out; have := HZ.out; omega) (by have := HZ.out; omega)
              (fun x hx a ha => by
                obtain ⟨j, hj⟩ := List.getElem?_of_mem hx
                have h1 := hKR.kid hj a ha
                have h2 := (List.getElem?_eq_some_iff.1 hj).1
                have h3 := hKR.max
                omega) (by omega) (by omega) (fun x hx => (HKK.out K (List.mem_of_getElem? hK) x hx).2)
            obtain ⟨ka, kc, rfl, hk1, hk2⟩ := hNL.form
            obtain ⟨k, hk⟩ : ∃ k, k = K.length := ⟨_, rfl⟩
            rw [← hk] at hP x0 hk1
            have HP := Lib.hid hP
            have HK := Lib.hid hK
            have HQ1 := Lib.hid hq1
            clear hK hk hNL hNL2 hu hcs hv x1 hKR hz1' hz2' hq1 hq2 hq3 hP
            go_wp2_with (go_at_call 55; refine HP.out.mono ?_; rintro e w2 ⟨⟨ev, rfl⟩, hb2, M, hM1, hM2⟩; have HB2 := Lib.hid hb2; have HM1 := Lib.hid hM1; have HM2 := Lib.hid hM2; clear hb2 hM1 hM2 HP)
            go_roundw
            case rel =>
              refine ⟨i + 1, L ++ M, by omega, by go_num, ?_, ?_, HB2.out⟩
              · rw [HQ1.out]
                exact HM2.out
              · rw [List.map_append, HL.out, HM1.out, parts_take HK.out, HLL.out, HLN.out]
            case measure => simp [intOf]; omega
          · obtain rfl : n = i := by omega
            have htk2 : KS.take n = KS := by rw [HN.out]; exact List.take_length
            rw [htk2] at HBD HL HLN
            have hR5 := HR.out.below HBX.out HR.out.lt
            obtain ⟨y0, y1, y2, _, _, _⟩ := node_cells hR5
            have hkl := HO.out.kl
            have hq3 := kidsN_right KS HRT.out
            have HRI := Lib.hid (roots_in KS 0)
            obtain ⟨RT, hRT2⟩ : ∃ x, x = (⟨kind, text, rootsL KS 0⟩ : Nd) := ⟨_, rfl⟩
            have HRTE := Lib.hid hRT2
            have HKV := Lib.hid hkl
            have HQ3 := Lib.hid hq3
            have HR5 := Lib.hid hR5
            obtain ⟨W5, hW5⟩ : ∃ W5, W5 = wr.alloc (.cells #[.int .i64 kind, .string S, kv] 42) := ⟨_, rfl⟩
            have HW5 := Lib.hid hW5
            clear htk2 hkl hq3 hRT2 hR5 hW5
            have HPC : Hid (Calls Tryd.prog 55 #[.pointer (some ⟨bb, 0, none⟩), .int .i64 0, .slice (some ⟨wr.heap.size, 0, none⟩) 1 1] (wr.alloc (.cells #[.int .i64 kind, .string S, kv] 42)) fun e W' => (∃ v, e = .returned v) ∧ Below w0.heap.size w0 W' ∧ ∃ NN, NN.map (·.1) = joinL kind text KS ∧ BD W' w0.heap.size bb q r (1 + z) (1 + z - 1) NN (kidsN KS + n)) := Lib.hid (by
              have hbA : Below wr.heap.size wr (wr.alloc (.cells #[.int .i64 kind, .string S, kv] 42)) := (Below.refl _ wr).alloc (Nat.le_refl _) _
              have hb0 : Below w0.heap.size w0 (wr.alloc (.cells #[.int .i64 kind, .string S, kv] 42)) := HBX.out.trans (hbA.mono HBX.out.size)
              have hBD5 := HBD.out.below hbA
              obtain ⟨t1, t2, t3⟩ := HBD.out.lts
              have hrl : (rootsL KS 0).length = n := by rw [roots_len, ← HN.out]
              have hkn : (allKids [RT]).length = n := by rw [HRTE.out]; simp [allKids, hrl]
              have hq := HQ3.out
              rw [← HN.out, ← HZ.out] at hq
              have hlz : L.length = z := by rw [HLN.out, HZ.out]
              refine (put_c _ w0.heap.size bb q r (1 + z) (1 + z - 1) L (kidsN KS) 0 (some ⟨wr.heap.size, 0, none⟩) 1 [RT] (fun _ => kv) hBD5 (fun _ => ⟨wr.heap.size, 0, rfl, fun W' hW => ?_⟩) (by simp; omega) (by rw [hkn]; omega) (by simp) (by decide) ?_ (by omega) (by omega) ?_).mono ?_
              · intro jj x hx
                obtain ⟨rfl, rfl⟩ : jj = 0 ∧ RT = x := by
                  cases jj with
                  | zero => exact ⟨rfl, by simpa using hx⟩
                  | succ jj => simp at hx
                have hrw : Row W' wr.heap.size 42 #[.int .i64 kind, .string S, kv] := (hW.block wr.heap.size (by simp) (by omega) (by omega) (by omega)).trans (Row.new _ _ _)
                obtain ⟨a1, a2, a3, _, _, _⟩ := node_cells hrw
                rw [HRTE.out]
                refine ⟨a1, ?_, a3, ?_⟩
                · rw [← HS.out]; exact a2
                · exact HKV.out.below (hW.below hb0 hb0.size hBD5.bb hBD5.q_le hBD5.rb)
              · intro x hx a ha
                obtain rfl : x = RT := by simpa using hx
                rw [HRTE.out] at ha
                have := HRI.out a ha
                have := HZ.out
                omega
              · intro x hx
                obtain rfl : x = RT := by simpa using hx
                rw [HRTE.out]
                exact HTX.out
              · rintro e W' ⟨he, hK, M, hM1, hM2⟩
                refine ⟨he, hK.below hb0 hb0.size hBD5.bb hBD5.q_le hBD5.rb, L ++ M, ?_, ?_⟩
                · rw [List.map_append, HL.out, hM1, join_eq, ← HRTE.out]
                  simp [mov_zero]
                · rw [hkn] at hM2
                  exact hM2)
            clear HRI HRTE HKV HQ3 HR5 HW5
            go_wp2_with fail
            refine HPC.out.mono ?_
            rintro e w2 ⟨⟨ev, rfl⟩, hb2, NN, hN1, hN2⟩
            have HB2 := Lib.hid hb2
            have HNN := Lib.hid hN1
            have HBD2 := Lib.hid hN2
            have HCK := Lib.hid (check_c w2 _ _ hN2.nl hN2.kids)
            obtain ⟨ro2, rowC, _⟩ := hN2.row
            have HRC := Lib.hid rowC
            obtain ⟨nl, hnl⟩ : ∃ x, x = NN.length := ⟨_, rfl⟩
            rw [← hnl] at rowC HCK
            have HNL := Lib.hid hnl
            have cC := rowC.cell 0
            simp only [List.getElem?_toArray, List.getElem?_cons_zero] at cC
            clear hb2 hN1 hN2 rowC hnl HPC cB y0 y1 y2
            go_wp2_with fail
            refine HCK.out.mono ?_
            rintro e w3 ⟨hb3, hres⟩
            have cD : w3.cell? ⟨bb, 0, none⟩ = some (.slice (some ⟨q, 0, none⟩) nl (1 + z)) := by
              have := (HRC.out.below hb3 HRC.out.lt).cell 0
              rw [HNL.out]
              simpa using this
            have HB3 := Lib.hid (HB.out.trans ((HB2.out.trans (hb3.mono HB2.out.size)).mono HB.out.size))
            have HBD3 := Lib.hid ((HBD2.out.below hb3).mono HB.out.size)
            clear hb3 cC
            rw [HNN.out] at hres
            rcases hres with ⟨hrb, rfl⟩ | ⟨hrb, pa, ps, rfl⟩
            · have HJ := Lib.hid (join_right (kind := kind) (text := text) HRT.out hrb)
              clear hrb
              go_wp2
              simp only [Exit.jump]
              refine bodyPost_ret (v := .tuple #[.slice (some ⟨q, 0, none⟩) nl (1 + z), .nilIface]) (by simp [results, Tryd.f39, go_sem]) rfl ⟨HB3.out, .inl ⟨bb, q, r, 1 + z, 1 + z - 1, NN, kidsN KS + n, by rw [HNL.out], HBD3.out, by rw [HNN.out]; exact HJ.out⟩⟩
            · have HJ := Lib.hid (join_wrong (kind := kind) (text := text) hrb)
              clear hrb
              unfold wrongV
              go_wp2
              go_step3
              go_wp2
              simp only [Exit.jump]
              refine bodyPost_ret (v := .tuple #[.slice none 0 0, wrongV pa ps]) (by simp [results, Tryd.f39, go_sem, wrongV]) rfl ⟨HB3.out, .inr ⟨HJ.out, pa, ps, rfl⟩⟩
end Go.Proofs.YtbegplfijjbpcaaDoor.No
