/- The program: what hangs on each node of a tree. -/
import Derived.Test.YtbegplfijjbpcaaDoorNqCheck
import Derived.Test.YtbegplfijjbpcaaDoorNqB
import Derived.Test.YtbegplfijjbpcaaDoorGrEar
namespace Go.Proofs.YtbegplfijjbpcaaDoor.No
open Go Go.RowKit Go.Shelf
attribute [local go_sem] Oper.semAt_some

theorem infoRe : ∃ i, Tryd.prog.info? 57 = some i ∧ i.zero = some (.agg #[.int .i64 0, .int .i64 0, .int .i64 0]) ∧ i.size = 3 ∧ i.bytes = 24 :=
  info_parts (show (Tryd.prog.info? 57).map (fun i => (i.zero, i.size, i.bytes)) = some (some (.agg #[.int .i64 0, .int .i64 0, .int .i64 0]), 3, 24) by kernel_rfl)
def reachC (T : List Nd) (i : Nat) : List Value := [.int .i64 ((val deepC 0 T i : Nat) : Int), .int .i64 ((val sizeC 0 T i : Nat) : Int), .int .i64 ((val firstC 0 T i : Nat) : Int)]
/-- The cells of the first k nodes'. -/
def cellsR (T : List Nd) : Nat → List Value
  | 0 => []
  | k + 1 => cellsR T k ++ reachC T k
theorem cellsR_len (T : List Nd) : ∀ k, (cellsR T k).length = k * 3
  | 0 => rfl
  | k + 1 => by
    show (cellsR T k ++ reachC T k).length = _
    rw [List.length_append, cellsR_len T k]
    simp [reachC]
    omega
theorem cellsR_at (T : List Nd) : ∀ (k i j : Nat), i < k → j < 3 → (cellsR T k)[i * 3 + j]? = (reachC T i)[j]?
  | 0, i, _, h, _ => by omega
  | k + 1, i, j, h, hj => by
    show (cellsR T k ++ reachC T k)[i * 3 + j]? = _
    by_cases e : i = k
    · subst e
      rw [List.getElem?_append_right (by rw [cellsR_len]; omega), cellsR_len, show i * 3 + j - i * 3 = j by omega]
    · rw [List.getElem?_append_left (by rw [cellsR_len]; omega)]
      exact cellsR_at T k i j (by omega) hj
/-- What the loop keeps. -/
structure RI (w : World) (T : List Nd) (n lb q : Nat) (pre : List (Ix n)) (W : World) : Prop where
  bx : ∃ k, Row W lb 58 #[.slice (some ⟨q, 0, none⟩) k n] ∧ k ≤ n ∧ (∃ cs, W.ownsRow w.heap.size 57 3 (.slice (some ⟨q, 0, none⟩) k n) k cs ∧ (pre.map (·.1) = List.range pre.length → k = pre.length ∧ cs = cellsR T k))
  size : lb < W.heap.size
  below : Below w.heap.size w W
theorem own_still {W W' : World} {base : Nat} {t : TypeId} {sz n : Nat} {v : Value} {xs : List Value} (h : W.ownsRow base t sz v n xs) (ht : t ≠ 42) (hs : StillN W W') : W'.ownsRow base t sz v n xs := by
  refine ⟨h.1, ?_⟩
  rcases h.2 with hn | ⟨g, cap, cur, e1, e2, e3, e4⟩
  · exact .inl hn
  · exact .inr ⟨g, cap, cur, e1, e2, hs g _ e3 (fun c e => by injection e with _ e; exact ht e) (fun r e => by cases e) (fun r e => by cases e), e4⟩
theorem RI.still {w : World} {T : List Nd} {n lb q : Nat} {pre : List (Ix n)} {W W' : World} (h : RI w T n lb q pre W) (hs : StillN W W') (hb : Below w.heap.size w W') (hz : W.heap.size ≤ W'.heap.size) : RI w T n lb q pre W' := by
  obtain ⟨k, h1, h2, cs, h3, h4⟩ := h.bx
  exact ⟨⟨k, row_still hs h1 (by decide), h2, cs, own_still h3 (by decide) hs, h4⟩, Nat.lt_of_lt_of_le h.size hz, hb⟩

theorem own_blk {W : World} {base q n cap sz : Nat} {t : TypeId} {xs : List Value} (h : W.ownsRow base t sz (.slice (some ⟨q, 0, none⟩) n cap) n xs) : ∃ cs, Row W q t cs := by
  rcases h.2 with ⟨hv, _⟩ | ⟨g, cap', cur, e1, _, e3, _⟩
  · cases hv
  · cases e1
    exact ⟨cur, e3⟩
theorem kid_few {T : List Nd} (h : RightT T) {k : Nat} {x : Nd} (hx : T[k]? = some x) : x.kids.length ≤ 400 := by
  have h1 := kids_len h
  have h2 := h.max
  have e : allKids T = allKids (T.take k) ++ x.kids ++ allKids (T.drop (k + 1)) := by
    rw [← kids_take hx]
    unfold allKids
    rw [← List.flatMap_append, List.take_append_drop]
  rw [e, List.length_append, List.length_append] at h1
  omega
/-- A node's reach, of the first kids. -/
def rOf (T : List Nd) (i : Nat) (l : List Int) : Array Value := #[.int .i64 ((accD T l + 1 : Nat) : Int), .int .i64 ((accZ T l : Nat) : Int), .int .i64 ((accF T i l : Nat) : Int)]

set_option maxRecDepth 100000 in
set_option maxHeartbeats 8000000 in
theorem reaches_c (w : World) (v : Value) (T : List Nd) (hT : NL w v T) (hR : RightT T) :
    Calls Tryd.prog 33 #[.agg #[v]] w fun e W' => Below w.heap.size w W' ∧ ∃ q cap, e = .returned (.slice (some ⟨q, 0, none⟩) T.length cap) ∧ W'.ownsRow w.heap.size 57 3 (.slice (some ⟨q, 0, none⟩) T.length cap) T.length (cellsR T T.length) := by
  obtain ⟨i0, hi, hz0, hz1, hz2⟩ := infoRe
  obtain ⟨a0, c0, kv, rfl, hc1, hc2, hL⟩ := hT.lies
  have hp := hR.pos
  have hm := hR.max
  obtain ⟨g, o, rfl, hg, hlies⟩ := hL (by omega)
  obtain ⟨n, hn⟩ : ∃ n, n = T.length := ⟨_, rfl⟩
  rw [← hn] at hc1 hp hm ⊢
  unfold maxLen at hc2
  have HN := Lib.hid hn
  have HR := Lib.hid hR
  have HLI := Lib.hid hlies
  clear hT hn hR hL hlies
  refine (callsIn_wide (n := 5)).1 ?_
  refine callsIn_of_wp_marks Tryd.func33 rfl trivial ?_ rfl
  simp only [Tryd.ntmps33, List.size_toArray, List.length_cons, List.length_nil, Nat.reduceAdd, Nat.reduceSub, Array.replicate_succ, Array.replicate_zero, List.push_toArray, List.append_toArray, List.nil_append, List.cons_append]
  obtain ⟨W1, hW1⟩ : ∃ W, W = w.alloc (.cells #[.slice (some ⟨g, o, none⟩) n c0] 47) := ⟨_, rfl⟩
  have hz1' : W1.heap.size = w.heap.size + 1 := by rw [hW1]; simp
  have rT : Row W1 w.heap.size 47 #[.slice (some ⟨g, o, none⟩) n c0] := by rw [hW1]; exact Row.new _ _ _
  have hb1 : Below w.heap.size w W1 := by rw [hW1]; exact (Below.refl _ w).alloc (Nat.le_refl _) _
  have HZ1 := Lib.hid hz1'
  have HT1 := Lib.hid rT
  have HB1 := Lib.hid hb1
  have HW1 := Lib.hid hW1
  clear hz1' rT hb1 hW1
  gi_wp2_with (gi_at_make; refine wpListIn_make_own _ rfl _ _ 58 rfl (w.heap.size + 1) 57 i0 (.agg #[.int .i64 0, .int .i64 0, .int .i64 0]) 3 Tryd.underlying58 hi hz0 hz1 .i64 .i64 _ n rfl rfl rfl (by rw [hz2]; omega) (by unfold maxLen; omega) (by simp) ?_; rw [← HW1.out]; intro w2 how2 hgw2; have r2 := row_grown HT1.out hgw2 (by simp); have ct2 := r2.cell 0; have hlt2 := r2.lt; simp only [List.getElem?_toArray, List.getElem?_cons_zero] at ct2; have HO2 := Lib.hid how2; have HG2 := Lib.hid hgw2; clear how2 hgw2 r2)
  refine ⟨trivial, ?_⟩
  gi_at_call 46
  refine (allN_in _ 4 trivial rfl _ _ _ _).mono ?_
  rintro e w' ⟨rfl, rfl⟩
  gi_wp2
  rename_i Q1 K1 hK1
  have hzz := HZ1.out
  simp only [hzz]
  have hO2 := HO2.out
  rw [hzz] at hO2
  have hg2 : W1.grownBy w2 none := HG2.out
  have hzg := hg2.size
  have hb2 : Below w.heap.size w w2 := HB1.out.trans ((Below.refl _ W1).grown hg2 (by omega) (fun k e => by cases e))
  obtain ⟨W0, hW0⟩ : ∃ W0, W0 = (w2.alloc (.cells #[.slice (some ⟨w.heap.size + 1, 0, none⟩) 0 n] 58)).alloc (.cells #[.slice (some ⟨g, o, none⟩) n c0] 22) := ⟨_, rfl⟩
  have r1 : Row W0 w2.heap.size 58 #[.slice (some ⟨w.heap.size + 1, 0, none⟩) 0 n] := by rw [hW0]; exact (Row.new _ _ _).alloc _
  have r2 : Row W0 (w2.heap.size + 1) 22 #[.slice (some ⟨g, o, none⟩) n c0] := by rw [hW0]; exact Row.at _ _ _ _ (by simp)
  have hsz : W0.heap.size = w2.heap.size + 2 := by rw [hW0]; simp
  have hbw : Below w.heap.size w W0 := by rw [hW0]; exact (hb2.alloc (by omega) _).alloc (by simp; omega) _
  have o0 : W0.ownsRow w.heap.size 57 3 (.slice (some ⟨w.heap.size + 1, 0, none⟩) 0 n) 0 [] := by rw [hW0]; exact own_mono ((hO2.alloc _).alloc _) (by omega)
  have cI := r2.cell 0
  simp only [List.getElem?_toArray, List.getElem?_cons_zero] at cI
  have hI0 : RI w T n w2.heap.size (w.heap.size + 1) [] W0 := ⟨⟨0, r1, Nat.zero_le _, [], o0, fun _ => ⟨rfl, rfl⟩⟩, by omega, hbw⟩
  have hds := allN_stops Fence.wide 4 trivial rfl (by omega) (w2.heap.size + 1) w.heap.size n c0 (some ⟨g, o, none⟩) T kv HN.out.symm (by omega) W0 (by omega) (by omega) cI (fun _ => ⟨g, o, rfl, hg, HLI.out.below rfl hbw hg⟩)
  have hlb : w.heap.size + 2 ≤ w2.heap.size ∨ w.heap.size + 1 ≤ w2.heap.size := by omega
  rw [← hW0]
  clear hW0 cI r1 r2 o0 hb2 ct2 hzz hO2 hg2
  refine wpIn_rangeFunc_ownO (t := 42) rfl (by omega) (gf := 58) (lb := #[.pointer (some ⟨w2.heap.size + 1, 0, none⟩)]) rfl trivial (enters_of Tryd.func58 (by kernel_rfl) rfl)
    hds (fun h k => h.trans k) (fun X l r r' hl hX => below_put (Below.refl _ _) (by omega) hX) (Below.refl _ _) (fun _ => rfl)
    (RI w T n w2.heap.size (w.heap.size + 1)) (fun _ _ _ => False)
    (fun q X Y hs hb => hs.still (StillN.step hb) (hs.below.trans (hb.1.mono (by omega))) hb.1.size)
    (fun c q X Y hs hb => hs)
    (fun q X l r r' hs hl hX => hs.still (StillN.put hX) (below_put hs.below (by omega) hX) (by simp [World.putObj]))
    (fun c q X l r r' hs hl hX => hs)
    hI0
    (fun x a' X => ∃ Bx, w.heap.size + 2 ≤ Bx ∧ Row X Bx 42 #[.int .i64 (ndAt T x.1).kind, .string (bs (ndAt T x.1).text), kv x.1] ∧ a' = { tmps := #[.agg #[.slice (some ⟨g, o, none⟩) n c0], .pointer (some ⟨w.heap.size, 0, none⟩), .slice none 0 0, .pointer (some ⟨w2.heap.size, 0, none⟩), .int .i64 (x.1 : Int), .pointer (some ⟨Bx, 0, none⟩), undef, undef, undef, .pointer (some ⟨w.heap.size, 0, none⟩), .slice (some ⟨g, o, none⟩) n c0, .int .i64 (n : Int), .slice (some ⟨w.heap.size + 1, 0, none⟩) 0 n, .pointer (some ⟨w.heap.size, 0, none⟩), .slice (some ⟨g, o, none⟩) n c0, .func (.func 58) #[] #[.pointer (some ⟨w2.heap.size + 1, 0, none⟩)], .int .i64 (x.1 : Int), .agg #[.int .i64 (ndAt T x.1).kind, .string (bs (ndAt T x.1).text), kv x.1], undef, undef, undef, undef, undef, undef, undef, undef, undef, undef, undef, undef, undef, undef, undef, undef, undef, undef, undef, undef, undef, undef, undef, undef, undef, undef, undef, undef, undef, undef, undef, undef, undef, undef, undef, undef, undef, undef, undef, undef, undef, undef, undef], defers := [] })
    (fun x a' _ X Y row hs hg hr => by obtain ⟨Bx, h1, h2, h3⟩ := hs; exact ⟨Bx, h1, h2.kept hg (fun r e => (hr r e).2), h3⟩)
    ?assign ?body ?done ?stop
  case assign =>
    rintro l pre x X K' hI hsX hK'
    obtain ⟨_, _, _, hkk⟩ := HLI.out x.1 _ (ndAt_of (by rw [← HN.out]; exact x.2))
    obtain ⟨ka, kc, hkv, _⟩ := hkk.form
    dsimp only [encN]
    rw [hkv]
    gi_wp2
    have hst : StepT 42 (w.heap.size + 1) X (X.alloc (.cells #[.int .i64 (ndAt T x.1).kind, .string (bs (ndAt T x.1).text), .slice ka (ndAt T x.1).kids.length kc] 42)) := ⟨(Below.refl _ X).alloc (by have := hI.size; omega) _, fun k ob ho _ => (Below.heap_alloc X _ k (Array.getElem?_eq_some_iff.1 ho).1).trans ho⟩
    exact hK' _ _ ((KeepsOthers.alloc _ _).from _) ((Below.refl _ X).alloc (by have := hI.size; omega) _) (hI.still (StillN.step hst) (hI.below.trans (hst.1.mono (by omega))) hst.1.size) ⟨X.heap.size, by have := hI.size; omega, by rw [hkv]; exact Row.new X _ _, by rw [hkv]⟩
  case body =>
    rintro l pre x a' X hl ⟨r, hr⟩ hI ⟨Bx, hBx, bX, rfl⟩ hord
    have hlen : pre.length = x.1 := by have := congrArg List.length hord; simpa using this
    obtain ⟨k, a1, hk, cs, a2, a3⟩ := hI.bx
    obtain ⟨hk2, hcs⟩ := a3 (by rw [hlen]; exact hord)
    rw [hlen] at hk2
    subst hk2
    subst hcs
    have hx := ndAt_of (T := T) (k := x.1) (by rw [← HN.out]; exact x.2)
    obtain ⟨_, _, _, hkk⟩ := HLI.out x.1 _ hx
    have hK4 := kid_few HR.out hx
    obtain ⟨ka, kc, hkv, hkl1, hkl2⟩ := hkk.form
    unfold maxLen at hkl2
    obtain ⟨KN, hKN⟩ : ∃ k, k = (ndAt T x.1).kids.length := ⟨_, rfl⟩
    obtain ⟨kd, hkd⟩ : ∃ k, k = (ndAt T x.1).kind := ⟨_, rfl⟩
    obtain ⟨U, hU⟩ : ∃ k, k = bs (ndAt T x.1).text := ⟨_, rfl⟩
    rw [hkv] at bX hkk
    rw [hkv]
    rw [← hKN] at bX hkk hK4 hkl1 ⊢
    rw [← hkd] at bX ⊢
    rw [← hU] at bX ⊢
    obtain ⟨b1, b2, b3, _, _, _⟩ := node_cells bX
    have HKK := Lib.hid hkk
    have HX := Lib.hid hx
    have HK := Lib.hid hKN
    have HA1 := Lib.hid a1
    have HA2 := Lib.hid a2
    have HBEL := Lib.hid hI.below
    have HPRE := Lib.hid hlen
    have HSX := Lib.hid hI.size
    have hbxl := bX.lt
    clear hkk hkv hx hKN hkd hU hI a1 a2 a3 hlen hord bX hr hk
    gi_wp2
    gi_loopw [23] (fun i wr => ∃ j : Nat, j ≤ KN ∧ i = .int .i64 j ∧ Row wr X.heap.size 57 (rOf T x.1 ((ndAt T x.1).kids.take j)) ∧ Below X.heap.size X wr) (fun i _ => KN - (intOf i).toNat)
    case atStart => exact ⟨0, Nat.zero_le _, rfl, Row.new X _ _, (Below.refl _ X).alloc (Nat.le_refl _) _⟩
    case round =>
      obtain ⟨j, hj, rfl, hrw, hB⟩ := hrel
      have HRW := Lib.hid hrw
      have HB := Lib.hid hB
      unfold rOf at hrw
      obtain ⟨c0, c1, c2, f0, f1, f2⟩ := node_cells hrw
      by_cases hlt : j < KN
      · obtain ⟨gk, ok, ck, hv, hgk, hck⟩ := HKK.out.cells (by rw [← HK.out]; omega)
        rw [← HK.out] at hv
        obtain rfl : ka = some ⟨gk, ok, none⟩ := by injection hv
        obtain ⟨a, ha⟩ : ∃ a, (ndAt T x.1).kids[j]? = some a := ⟨_, List.getElem?_eq_getElem (by rw [← HK.out]; exact hlt)⟩
        have hka := HR.out.kid HX.out a (List.mem_of_getElem? ha)
        obtain ⟨q, rfl⟩ : ∃ q : Nat, a = (q : Int) := ⟨a.toNat, by omega⟩
        have hq : q < x.1 := by omega
        have hwX : w.heap.size ≤ X.heap.size := HBEL.out.size
        have e1 := ((HBEL.out.trans (hB.mono hwX)).cell (p := ⟨gk, ok + j, none⟩) hgk).trans (hck j _ ha)
        have cL := (HA1.out.below hB HA1.out.lt).cell 0
        simp only [List.getElem?_toArray, List.getElem?_cons_zero] at cL
        have hown := own_kept HA2.out hB
        have hR : ∀ i, i < 3 → wr.cell? ⟨w.heap.size + 1, q * 3 + i, none⟩ = (reachC T q)[i]? := fun i hi => by
          rw [hown.cellAt (q * 3 + i) (by omega)]
          exact cellsR_at T x.1 q i hq hi
        have R0 := hR 0 (by omega)
        have R1 := hR 1 (by omega)
        have R2 := hR 2 (by omega)
        unfold reachC at R0 R1 R2
        simp only [List.getElem?_cons_zero, List.getElem?_cons_succ, Nat.add_zero] at R0 R1 R2
        have htk : (ndAt T x.1).kids.take (j + 1) = (ndAt T x.1).kids.take j ++ [(q : Int)] := by rw [List.take_add_one, ha]; rfl
        have hxn := x.2
        have hqT : q < T.length := by rw [← HN.out]; omega
        have b1 := deep_le HR.out.kidsOk q hqT
        have b2 := size_le HR.out hqT
        have b3 := accD_le HR.out.kidsOk HX.out j
        have b4 := accZ_le HR.out HX.out j
        have b5 := accF_le T x.1 ((ndAt T x.1).kids.take j)
        have b6 := first_le HR.out.kidsOk hqT
        have n1 := accD_snoc T ((ndAt T x.1).kids.take j) (q : Int)
        have n2 := accZ_snoc T ((ndAt T x.1).kids.take j) (q : Int)
        have n3 := accF_snoc T x.1 ((ndAt T x.1).kids.take j) (q : Int)
        rw [← htk, Int.toNat_natCast] at n1 n2 n3
        obtain ⟨D, hD⟩ : ∃ D, D = accD T ((ndAt T x.1).kids.take j) := ⟨_, rfl⟩
        obtain ⟨Z, hZ⟩ : ∃ D, D = accZ T ((ndAt T x.1).kids.take j) := ⟨_, rfl⟩
        obtain ⟨F, hF⟩ : ∃ D, D = accF T x.1 ((ndAt T x.1).kids.take j) := ⟨_, rfl⟩
        obtain ⟨d, hd⟩ : ∃ D, D = val deepC 0 T q := ⟨_, rfl⟩
        obtain ⟨z, hz⟩ : ∃ D, D = val sizeC 0 T q := ⟨_, rfl⟩
        obtain ⟨fi, hfi⟩ : ∃ D, D = val firstC 0 T q := ⟨_, rfl⟩
        rw [← hD] at c0 b3 n1
        rw [← hZ] at c1 b4 n2
        rw [← hF] at c2 b5 n3
        rw [← hd] at R0 b1 n1
        rw [← hz] at R1 b2 n2
        rw [← hfi] at R2 b6 n3
        have N1 := Lib.hid n1
        have N2 := Lib.hid n2
        have N3 := Lib.hid n3
        have hqb : w.heap.size + 1 < X.heap.size := by have := (HA2.out.lt _ rfl).2; omega
        have hlbb : w2.heap.size < X.heap.size := HSX.out
        have HRW2 : Hid (Row wr X.heap.size 57 #[.int .i64 ((D + 1 : Nat) : Int), .int .i64 (Z : Int), .int .i64 (F : Int)]) := Lib.hid (by
          have := HRW.out
          unfold rOf at this
          rw [← hD, ← hZ, ← hF] at this
          exact this)
        have HAL : Hid (∀ Y, Below X.heap.size X Y → Y.drew.cell? ⟨w2.heap.size, 0, none⟩ = some (.slice (some ⟨w.heap.size + 1, 0, none⟩) x.1 n) ∧ Y.drew.cell? ⟨w.heap.size + 1, q * 3 + 1, none⟩ = some (.int .i64 (z : Int)) ∧ Y.drew.cell? ⟨w.heap.size + 1, q * 3 + 2, none⟩ = some (.int .i64 (fi : Int))) := Lib.hid (fun Y hY => by
          have hownY := own_kept HA2.out hY
          refine ⟨(HA1.out.below hY HA1.out.lt).cell 0, ?_, ?_⟩
          · have h9 : Y.cell? ⟨w.heap.size + 1, q * 3 + 1, none⟩ = _ := hownY.cellAt (q * 3 + 1) (by omega)
            rw [cellsR_at T x.1 q 1 hq (by omega)] at h9
            unfold reachC at h9
            rw [← hz] at h9
            exact h9
          · have h9 : Y.cell? ⟨w.heap.size + 1, q * 3 + 2, none⟩ = _ := hownY.cellAt (q * 3 + 2) (by omega)
            rw [cellsR_at T x.1 q 2 hq (by omega)] at h9
            unfold reachC at h9
            rw [← hfi] at h9
            exact h9)
        have HTK := Lib.hid htk
        clear hv hgk hck ha hka hown hR htk hqT n1 n2 n3 hD hZ hF hd hz hfi hrw hB
        have hqi : (q : Int) < (x.1 : Int) := by omega
        have hqn : ¬ ((x.1 : Int) ≤ (q : Int)) := by omega
        have v7 : IntKind.i64.wrap ((d : Int) + 1) = ((d + 1 : Nat) : Int) := by rw [IntKind.wrap_i64]; omega
        have v9 : IntKind.i64.wrap ((Z : Int) + (z : Int)) = ((Z + z : Nat) : Int) := by rw [IntKind.wrap_i64]; omega
        have v10 : min (F : Int) (fi : Int) = ((min F fi : Nat) : Int) := by omega
        gi_wp2
        have k0 : wr.drew.cell? ⟨X.heap.size, 0, none⟩ = some (.int .i64 ((D + 1 : Nat) : Int)) := c0
        have k3 : wr.drew.cell? ⟨w.heap.size + 1, q * 3, none⟩ = some (.int .i64 (d : Int)) := R0
        have kL : wr.drew.cell? ⟨w2.heap.size, 0, none⟩ = some (.slice (some ⟨w.heap.size + 1, 0, none⟩) x.1 n) := cL
        refine Ear.wpIn_region_early (by kernel_rfl) (by kernel_rfl) 10 (by decide) (by kernel_rfl) (by kernel_rfl) (by kernel_rfl) (fun i => [(.pointer (some ⟨X.heap.size, 0, none⟩) : Value), .int .i64 ((D + 1 : Nat) : Int), .slice (some ⟨w.heap.size + 1, 0, none⟩) x.1 n, .int .i64 (q : Int), .pointer (some ⟨w.heap.size + 1, q * 3, none⟩), .pointer (some ⟨w.heap.size + 1, q * 3, none⟩), .int .i64 (d : Int), .int .i64 ((d + 1 : Nat) : Int), .int .i64 ((max (D + 1) (d + 1) : Nat) : Int), .pointer (some ⟨X.heap.size, 0, none⟩)].getD i undef) _ rfl _ rfl ?_ ?_
        · intro i oo listed a' him ho hsz hu haf hcl hS
          obtain rfl | rfl | rfl | rfl | rfl | rfl | rfl | rfl | rfl | rfl : i = 0 ∨ i = 1 ∨ i = 2 ∨ i = 3 ∨ i = 4 ∨ i = 5 ∨ i = 6 ∨ i = 7 ∨ i = 8 ∨ i = 9 := by omega
          · cases ho
            have q6 : a'.tmps[6]? = some (.pointer (some ⟨X.heap.size, 0, none⟩)) := (hS.tmpBase 6 (by kernel_rfl)).trans rfl
            refine ⟨fun _ _ => trivial, _, ?_, .inl rfl⟩
            rw [Oper.semAt_plain _ _ _ (by intro c h; cases h)]
            simp [execOp, q6, go_sem]
          · cases ho
            have q27 : a'.tmps[27]? = some (.pointer (some ⟨X.heap.size, 0, none⟩)) := hS.tmpSet 0 _ 27 rfl rfl (by simp) (haf ⟨0, .data⟩ (Array.mem_of_getElem? (i := 0) rfl) rfl)
            refine ⟨fun _ _ => trivial, _, ?_, .inl rfl⟩
            rw [Oper.semAt_plain _ _ _ (by intro c h; cases h)]
            simp [execOp, q27, k0, go_sem]
          · cases ho
            have q3 : a'.tmps[3]? = some (.pointer (some ⟨w2.heap.size, 0, none⟩)) := (hS.tmpBase 3 (by kernel_rfl)).trans rfl
            refine ⟨fun _ _ => trivial, _, ?_, .inl rfl⟩
            rw [Oper.semAt_plain _ _ _ (by intro c h; cases h)]
            simp [execOp, q3, kL, go_sem]
          · cases ho
            have q8 : a'.tmps[8]? = some (.int .i64 (q : Int)) := (hS.tmpBase 8 (by kernel_rfl)).trans rfl
            refine ⟨fun _ _ => trivial, _, ?_, .inl rfl⟩
            rw [Oper.semAt_plain _ _ _ (by intro c h; cases h)]
            simp [execOp, q8, go_sem]
          · cases ho
            have q29 : a'.tmps[29]? = some (.slice (some ⟨w.heap.size + 1, 0, none⟩) x.1 n) := hS.tmpSet 2 _ 29 rfl rfl (by simp) (haf ⟨2, .data⟩ (Array.mem_of_getElem? (i := 0) rfl) rfl)
            have q30 : a'.tmps[30]? = some (.int .i64 (q : Int)) := hS.tmpSet 3 _ 30 rfl rfl (by simp) (haf ⟨3, .data⟩ (Array.mem_of_getElem? (i := 1) rfl) rfl)
            refine ⟨fun _ _ => trivial, _, ?_, .inl rfl⟩
            rw [Oper.semAt_plain _ _ _ (by intro c h; cases h)]
            simp [execOp, q29, q30, hqi, go_sem]
          · cases ho
            have q31 : a'.tmps[31]? = some (.pointer (some ⟨w.heap.size + 1, q * 3, none⟩)) := hS.tmpSet 4 _ 31 rfl rfl (by simp) (haf ⟨4, .data⟩ (Array.mem_of_getElem? (i := 0) rfl) rfl)
            refine ⟨fun _ _ => trivial, _, ?_, .inl rfl⟩
            rw [Oper.semAt_plain _ _ _ (by intro c h; cases h)]
            simp [execOp, q31, go_sem]
          · cases ho
            have q32 : a'.tmps[32]? = some (.pointer (some ⟨w.heap.size + 1, q * 3, none⟩)) := hS.tmpSet 5 _ 32 rfl rfl (by simp) (haf ⟨5, .data⟩ (Array.mem_of_getElem? (i := 0) rfl) rfl)
            refine ⟨fun _ _ => trivial, _, ?_, .inl rfl⟩
            rw [Oper.semAt_plain _ _ _ (by intro c h; cases h)]
            simp [execOp, q32, k3, go_sem]
          · cases ho
            have q33 : a'.tmps[33]? = some (.int .i64 (d : Int)) := hS.tmpSet 6 _ 33 rfl rfl (by simp) (haf ⟨6, .data⟩ (Array.mem_of_getElem? (i := 0) rfl) rfl)
            refine ⟨fun _ _ => trivial, _, ?_, .inl rfl⟩
            rw [Oper.semAt_plain _ _ _ (by intro c h; cases h)]
            simp [execOp, q33, v7, go_sem]
          · cases ho
            have q28 : a'.tmps[28]? = some (.int .i64 ((D + 1 : Nat) : Int)) := hS.tmpSet 1 _ 28 rfl rfl (by simp) (haf ⟨1, .data⟩ (Array.mem_of_getElem? (i := 0) rfl) rfl)
            have q34 : a'.tmps[34]? = some (.int .i64 ((d + 1 : Nat) : Int)) := hS.tmpSet 7 _ 34 rfl rfl (by simp) (haf ⟨7, .data⟩ (Array.mem_of_getElem? (i := 1) rfl) rfl)
            refine ⟨fun _ _ => trivial, _, ?_, .inl rfl⟩
            rw [Oper.semAt_plain _ _ _ (by intro c h; cases h)]
            simp [execOp, q28, q34, go_sem]
            omega
          · cases ho
            have q6 : a'.tmps[6]? = some (.pointer (some ⟨X.heap.size, 0, none⟩)) := (hS.tmpBase 6 (by kernel_rfl)).trans rfl
            refine ⟨fun _ _ => trivial, _, ?_, .inl rfl⟩
            rw [Oper.semAt_plain _ _ _ (by intro c h; cases h)]
            simp [execOp, q6, go_sem]
        simp only [finAct, List.getElem?_toArray, List.getElem?_cons_zero, List.getElem?_cons_succ, List.getD_cons_zero, List.getD_cons_succ, Act.put, List.setIfInBounds_toArray, List.set_cons_zero, List.set_cons_succ]
        try simp only [List.drop_succ_cons, List.drop_zero]
        gi_wp2
        clear c0 c1 c2 f0 f1 f2 k0 k3 kL
        obtain ⟨Wa, hWa⟩ : ∃ W, W = (wr.setCell ⟨X.heap.size, 0, none⟩ (.int .i64 (((max D d : Nat) : Int) + 1))).drew := ⟨_, rfl⟩
        have rWa : Row Wa X.heap.size 57 #[.int .i64 (((max D d : Nat) : Int) + 1), .int .i64 (Z : Int), .int .i64 (F : Int)] := by rw [hWa]; exact (HRW2.out.set 0 (.int .i64 (((max D d : Nat) : Int) + 1))).drew
        have bWa : Below X.heap.size X Wa := by rw [hWa]; exact (HB.out.setCell (p := ⟨X.heap.size, 0, none⟩) (Nat.le_refl _) _).drew
        rw [← hWa]
        have RWa := Lib.hid rWa
        have BWa := Lib.hid bWa
        obtain ⟨_, y1, y2, g0, g1, g2⟩ := node_cells rWa
        obtain ⟨kL, k4, k5⟩ := HAL.out Wa bWa
        have k1 : Wa.drew.cell? ⟨X.heap.size, 1, none⟩ = some (.int .i64 (Z : Int)) := y1
        clear hWa rWa bWa k5
        refine Ear.wpIn_region_early (by kernel_rfl) (by kernel_rfl) 9 (by decide) (by kernel_rfl) (by kernel_rfl) (by kernel_rfl) (fun i => [(.pointer (some ⟨X.heap.size, 1, none⟩) : Value), .int .i64 (Z : Int), .slice (some ⟨w.heap.size + 1, 0, none⟩) x.1 n, .int .i64 (q : Int), .pointer (some ⟨w.heap.size + 1, q * 3, none⟩), .pointer (some ⟨w.heap.size + 1, q * 3 + 1, none⟩), .int .i64 (z : Int), .int .i64 ((Z + z : Nat) : Int), .pointer (some ⟨X.heap.size, 1, none⟩)].getD i undef) _ rfl _ rfl ?_ ?_
        · intro i oo listed a' him ho hsz hu haf hcl hS
          obtain rfl | rfl | rfl | rfl | rfl | rfl | rfl | rfl | rfl : i = 0 ∨ i = 1 ∨ i = 2 ∨ i = 3 ∨ i = 4 ∨ i = 5 ∨ i = 6 ∨ i = 7 ∨ i = 8 := by omega
          · cases ho
            have q6 : a'.tmps[6]? = some (.pointer (some ⟨X.heap.size, 0, none⟩)) := (hS.tmpBase 6 (by kernel_rfl)).trans rfl
            refine ⟨fun _ _ => trivial, _, ?_, .inl rfl⟩
            rw [Oper.semAt_plain _ _ _ (by intro c h; cases h)]
            simp [execOp, q6, go_sem]
          · cases ho
            have q37 : a'.tmps[37]? = some (.pointer (some ⟨X.heap.size, 1, none⟩)) := hS.tmpSet 0 _ 37 rfl rfl (by simp) (haf ⟨0, .data⟩ (Array.mem_of_getElem? (i := 0) rfl) rfl)
            refine ⟨fun _ _ => trivial, _, ?_, .inl rfl⟩
            rw [Oper.semAt_plain _ _ _ (by intro c h; cases h)]
            simp [execOp, q37, k1, go_sem]
          · cases ho
            have q3 : a'.tmps[3]? = some (.pointer (some ⟨w2.heap.size, 0, none⟩)) := (hS.tmpBase 3 (by kernel_rfl)).trans rfl
            refine ⟨fun _ _ => trivial, _, ?_, .inl rfl⟩
            rw [Oper.semAt_plain _ _ _ (by intro c h; cases h)]
            simp [execOp, q3, kL, go_sem]
          · cases ho
            have q8 : a'.tmps[8]? = some (.int .i64 (q : Int)) := (hS.tmpBase 8 (by kernel_rfl)).trans rfl
            refine ⟨fun _ _ => trivial, _, ?_, .inl rfl⟩
            rw [Oper.semAt_plain _ _ _ (by intro c h; cases h)]
            simp [execOp, q8, go_sem]
          · cases ho
            have q39 : a'.tmps[39]? = some (.slice (some ⟨w.heap.size + 1, 0, none⟩) x.1 n) := hS.tmpSet 2 _ 39 rfl rfl (by simp) (haf ⟨2, .data⟩ (Array.mem_of_getElem? (i := 0) rfl) rfl)
            have q40 : a'.tmps[40]? = some (.int .i64 (q : Int)) := hS.tmpSet 3 _ 40 rfl rfl (by simp) (haf ⟨3, .data⟩ (Array.mem_of_getElem? (i := 1) rfl) rfl)
            refine ⟨fun _ _ => trivial, _, ?_, .inl rfl⟩
            rw [Oper.semAt_plain _ _ _ (by intro c h; cases h)]
            simp [execOp, q39, q40, hqi, go_sem]
          · cases ho
            have q41 : a'.tmps[41]? = some (.pointer (some ⟨w.heap.size + 1, q * 3, none⟩)) := hS.tmpSet 4 _ 41 rfl rfl (by simp) (haf ⟨4, .data⟩ (Array.mem_of_getElem? (i := 0) rfl) rfl)
            refine ⟨fun _ _ => trivial, _, ?_, .inl rfl⟩
            rw [Oper.semAt_plain _ _ _ (by intro c h; cases h)]
            simp [execOp, q41, go_sem]
          · cases ho
            have q42 : a'.tmps[42]? = some (.pointer (some ⟨w.heap.size + 1, q * 3 + 1, none⟩)) := hS.tmpSet 5 _ 42 rfl rfl (by simp) (haf ⟨5, .data⟩ (Array.mem_of_getElem? (i := 0) rfl) rfl)
            refine ⟨fun _ _ => trivial, _, ?_, .inl rfl⟩
            rw [Oper.semAt_plain _ _ _ (by intro c h; cases h)]
            simp [execOp, q42, k4, go_sem]
          · cases ho
            have q38 : a'.tmps[38]? = some (.int .i64 (Z : Int)) := hS.tmpSet 1 _ 38 rfl rfl (by simp) (haf ⟨1, .data⟩ (Array.mem_of_getElem? (i := 0) rfl) rfl)
            have q43 : a'.tmps[43]? = some (.int .i64 (z : Int)) := hS.tmpSet 6 _ 43 rfl rfl (by simp) (haf ⟨6, .data⟩ (Array.mem_of_getElem? (i := 1) rfl) rfl)
            refine ⟨fun _ _ => trivial, _, ?_, .inl rfl⟩
            rw [Oper.semAt_plain _ _ _ (by intro c h; cases h)]
            simp [execOp, q38, q43, v9, go_sem]
          · cases ho
            have q6 : a'.tmps[6]? = some (.pointer (some ⟨X.heap.size, 0, none⟩)) := (hS.tmpBase 6 (by kernel_rfl)).trans rfl
            refine ⟨fun _ _ => trivial, _, ?_, .inl rfl⟩
            rw [Oper.semAt_plain _ _ _ (by intro c h; cases h)]
            simp [execOp, q6, go_sem]
        simp only [finAct, List.getElem?_toArray, List.getElem?_cons_zero, List.getElem?_cons_succ, List.getD_cons_zero, List.getD_cons_succ, Act.put, List.setIfInBounds_toArray, List.set_cons_zero, List.set_cons_succ]
        try simp only [List.drop_succ_cons, List.drop_zero]
        gi_wp2
        clear y1 y2 g0 g1 g2 k1 k4 kL
        obtain ⟨Wb, hWb⟩ : ∃ W, W = (Wa.setCell ⟨X.heap.size, 1, none⟩ (.int .i64 (((Z : Nat) : Int) + (z : Int)))).drew := ⟨_, rfl⟩
        have rWb : Row Wb X.heap.size 57 #[.int .i64 (((max D d : Nat) : Int) + 1), .int .i64 (((Z : Nat) : Int) + (z : Int)), .int .i64 (F : Int)] := by rw [hWb]; exact ((RWa.out).set 1 (.int .i64 (((Z : Nat) : Int) + (z : Int)))).drew
        have bWb : Below X.heap.size X Wb := by rw [hWb]; exact (BWa.out.setCell (p := ⟨X.heap.size, 1, none⟩) (Nat.le_refl _) _).drew
        rw [← hWb]
        have RWb := Lib.hid rWb
        have BWb := Lib.hid bWb
        obtain ⟨_, _, y2, g0, g1, g2⟩ := node_cells rWb
        obtain ⟨kL, k4, k5⟩ := HAL.out Wb bWb
        have k2 : Wb.drew.cell? ⟨X.heap.size, 2, none⟩ = some (.int .i64 (F : Int)) := y2
        clear hWb rWb bWb k4
        refine Ear.wpIn_region_early (by kernel_rfl) (by kernel_rfl) 9 (by decide) (by kernel_rfl) (by kernel_rfl) (by kernel_rfl) (fun i => [(.pointer (some ⟨X.heap.size, 2, none⟩) : Value), .int .i64 (F : Int), .slice (some ⟨w.heap.size + 1, 0, none⟩) x.1 n, .int .i64 (q : Int), .pointer (some ⟨w.heap.size + 1, q * 3, none⟩), .pointer (some ⟨w.heap.size + 1, q * 3 + 2, none⟩), .int .i64 (fi : Int), .int .i64 ((min F fi : Nat) : Int), .pointer (some ⟨X.heap.size, 2, none⟩)].getD i undef) _ rfl _ rfl ?_ ?_
        · intro i oo listed a' him ho hsz hu haf hcl hS
          obtain rfl | rfl | rfl | rfl | rfl | rfl | rfl | rfl | rfl : i = 0 ∨ i = 1 ∨ i = 2 ∨ i = 3 ∨ i = 4 ∨ i = 5 ∨ i = 6 ∨ i = 7 ∨ i = 8 := by omega
          · cases ho
            have q6 : a'.tmps[6]? = some (.pointer (some ⟨X.heap.size, 0, none⟩)) := (hS.tmpBase 6 (by kernel_rfl)).trans rfl
            refine ⟨fun _ _ => trivial, _, ?_, .inl rfl⟩
            rw [Oper.semAt_plain _ _ _ (by intro c h; cases h)]
            simp [execOp, q6, go_sem]
          · cases ho
            have q46 : a'.tmps[46]? = some (.pointer (some ⟨X.heap.size, 2, none⟩)) := hS.tmpSet 0 _ 46 rfl rfl (by simp) (haf ⟨0, .data⟩ (Array.mem_of_getElem? (i := 0) rfl) rfl)
            refine ⟨fun _ _ => trivial, _, ?_, .inl rfl⟩
            rw [Oper.semAt_plain _ _ _ (by intro c h; cases h)]
            simp [execOp, q46, k2, go_sem]
          · cases ho
            have q3 : a'.tmps[3]? = some (.pointer (some ⟨w2.heap.size, 0, none⟩)) := (hS.tmpBase 3 (by kernel_rfl)).trans rfl
            refine ⟨fun _ _ => trivial, _, ?_, .inl rfl⟩
            rw [Oper.semAt_plain _ _ _ (by intro c h; cases h)]
            simp [execOp, q3, kL, go_sem]
          · cases ho
            have q8 : a'.tmps[8]? = some (.int .i64 (q : Int)) := (hS.tmpBase 8 (by kernel_rfl)).trans rfl
            refine ⟨fun _ _ => trivial, _, ?_, .inl rfl⟩
            rw [Oper.semAt_plain _ _ _ (by intro c h; cases h)]
            simp [execOp, q8, go_sem]
          · cases ho
            have q48 : a'.tmps[48]? = some (.slice (some ⟨w.heap.size + 1, 0, none⟩) x.1 n) := hS.tmpSet 2 _ 48 rfl rfl (by simp) (haf ⟨2, .data⟩ (Array.mem_of_getElem? (i := 0) rfl) rfl)
            have q49 : a'.tmps[49]? = some (.int .i64 (q : Int)) := hS.tmpSet 3 _ 49 rfl rfl (by simp) (haf ⟨3, .data⟩ (Array.mem_of_getElem? (i := 1) rfl) rfl)
            refine ⟨fun _ _ => trivial, _, ?_, .inl rfl⟩
            rw [Oper.semAt_plain _ _ _ (by intro c h; cases h)]
            simp [execOp, q48, q49, hqi, go_sem]
          · cases ho
            have q50 : a'.tmps[50]? = some (.pointer (some ⟨w.heap.size + 1, q * 3, none⟩)) := hS.tmpSet 4 _ 50 rfl rfl (by simp) (haf ⟨4, .data⟩ (Array.mem_of_getElem? (i := 0) rfl) rfl)
            refine ⟨fun _ _ => trivial, _, ?_, .inl rfl⟩
            rw [Oper.semAt_plain _ _ _ (by intro c h; cases h)]
            simp [execOp, q50, go_sem]
          · cases ho
            have q51 : a'.tmps[51]? = some (.pointer (some ⟨w.heap.size + 1, q * 3 + 2, none⟩)) := hS.tmpSet 5 _ 51 rfl rfl (by simp) (haf ⟨5, .data⟩ (Array.mem_of_getElem? (i := 0) rfl) rfl)
            refine ⟨fun _ _ => trivial, _, ?_, .inl rfl⟩
            rw [Oper.semAt_plain _ _ _ (by intro c h; cases h)]
            simp [execOp, q51, k5, go_sem]
          · cases ho
            have q47 : a'.tmps[47]? = some (.int .i64 (F : Int)) := hS.tmpSet 1 _ 47 rfl rfl (by simp) (haf ⟨1, .data⟩ (Array.mem_of_getElem? (i := 0) rfl) rfl)
            have q52 : a'.tmps[52]? = some (.int .i64 (fi : Int)) := hS.tmpSet 6 _ 52 rfl rfl (by simp) (haf ⟨6, .data⟩ (Array.mem_of_getElem? (i := 1) rfl) rfl)
            refine ⟨fun _ _ => trivial, _, ?_, .inl rfl⟩
            rw [Oper.semAt_plain _ _ _ (by intro c h; cases h)]
            simp [execOp, q47, q52, v10, go_sem]
          · cases ho
            have q6 : a'.tmps[6]? = some (.pointer (some ⟨X.heap.size, 0, none⟩)) := (hS.tmpBase 6 (by kernel_rfl)).trans rfl
            refine ⟨fun _ _ => trivial, _, ?_, .inl rfl⟩
            rw [Oper.semAt_plain _ _ _ (by intro c h; cases h)]
            simp [execOp, q6, go_sem]
        clear v10
        simp only [finAct, List.getElem?_toArray, List.getElem?_cons_zero, List.getElem?_cons_succ, List.getD_cons_zero, List.getD_cons_succ, Act.put, List.setIfInBounds_toArray, List.set_cons_zero, List.set_cons_succ]
        try simp only [List.drop_succ_cons, List.drop_zero]
        gi_wp2
        go_roundw
        case rel =>
          refine ⟨j + 1, by omega, by go_num, ?_, (BWb.out.setCell (p := ⟨X.heap.size, 2, none⟩) (Nat.le_refl _) _).drew⟩
          have e : rOf T x.1 ((ndAt T x.1).kids.take (j + 1)) = #[.int .i64 (((max D d : Nat) : Int) + 1), .int .i64 (((Z : Nat) : Int) + (z : Int)), .int .i64 ((min F fi : Nat) : Int)] := by
            unfold rOf
            rw [N1.out, N2.out, N3.out]
            simp
          rw [e]
          exact (RWb.out.set 2 (.int .i64 ((min F fi : Nat) : Int))).drew
        case measure => simp [intOf]; omega
      · obtain rfl : j = KN := by omega
        have hall : (ndAt T x.1).kids.take j = (ndAt T x.1).kids := by rw [HK.out, List.take_length]
        have ed := deep_eq HR.out.kidsOk HX.out
        have es := size_eq HR.out.kidsOk HX.out
        have ef := first_eq HR.out.kidsOk HX.out
        rw [hall, ← ed] at c0
        rw [hall, ← es] at c1
        rw [hall, ← ef] at c2
        have cL := (HA1.out.below hB HA1.out.lt).cell 0
        have fL := (HA1.out.below hB HA1.out.lt).frozen 0
        simp only [List.getElem?_toArray, List.getElem?_cons_zero] at cL
        have hown := own_kept HA2.out hB
        have hqb : w.heap.size + 1 < wr.heap.size := (hown.lt _ rfl).2
        have hne : w2.heap.size ≠ w.heap.size + 1 := by
          obtain ⟨cc, hcc⟩ := own_blk hown
          exact row_apart (HA1.out.below hB HA1.out.lt) hcc (by decide)
        obtain ⟨D, hD⟩ : ∃ D, D = val deepC 0 T x.1 := ⟨_, rfl⟩
        obtain ⟨Z, hZ⟩ : ∃ D, D = val sizeC 0 T x.1 := ⟨_, rfl⟩
        obtain ⟨F, hF⟩ : ∃ D, D = val firstC 0 T x.1 := ⟨_, rfl⟩
        rw [← hD] at c0
        rw [← hZ] at c1
        rw [← hF] at c2
        have HRC : Hid (cellsR T (x.1 + 1) = cellsR T x.1 ++ [.int .i64 (D : Int), .int .i64 (Z : Int), .int .i64 (F : Int)]) := Lib.hid (by rw [hD, hZ, hF]; rfl)
        have HOW := Lib.hid hown
        have HLB := Lib.hid (HA1.out.below hB HA1.out.lt)
        have hxn := x.2
        have hszr : X.heap.size ≤ wr.heap.size := hB.size
        clear hall ed es ef hD hZ hF hown hrw hB
        gi_wp2_with (gi_at_builtin; refine wpListIn_append_fits _ rfl _ _ 58 rfl w.heap.size 57 i0 3 Tryd.underlying58 hi hz1 (w.heap.size + 1) x.1 n (cellsR T x.1) rfl (HOW.out.alloc _) ⟨wr.heap.size, 0, none⟩ 1 1 [.int .i64 (D : Int), .int .i64 (Z : Int), .int .i64 (F : Int)] rfl rfl (World.news_of_block (World.alloc_heap_new wr (.cells #[.int .i64 (D : Int), .int .i64 (Z : Int), .int .i64 (F : Int)] 57))) (by simp [Value.oneCell']) (by omega) ?_; intro w3 how3 hgw3; have HO3 := Lib.hid how3; have HG3 := Lib.hid hgw3; have a3 : Row w3 w2.heap.size 58 #[.slice (some ⟨w.heap.size + 1, 0, none⟩) x.1 n] := row_grown (HLB.out.alloc _) hgw3 (fun e => by injection e with e; exact hne e.symm); have HA3 := Lib.hid a3; have c3 := a3.cell 0; have f3 := a3.frozen 0; simp only [List.getElem?_toArray, List.getElem?_cons_zero] at c3; clear how3 hgw3 a3)
        have hS3 := HG3.out.size
        rw [World.size_alloc] at hS3
        have hbx := HBEL.out.size
        obtain ⟨cc, hcc⟩ := own_blk (HOW.out.alloc (.cells #[.int .i64 (D : Int), .int .i64 (Z : Int), .int .i64 (F : Int)] 57))
        have hbW : Below w.heap.size X w3 := below_grown ((HB.out.alloc (by have := HB.out.size; omega) _).mono (by omega)) (by rw [World.size_alloc]; omega) HG3.out (by omega)
        have hl2 : w.heap.size ≤ w2.heap.size := by have := HO2.out; omega
        refine ⟨(((keeps_below _ HB.out).trans ((KeepsOthers.alloc _ _).from _)).trans (keeps_row _ hcc HG3.out)).trans ((KeepsOthers.setCell _ _ _).from _), hbW.setCell (by dsimp only; omega) _, ⟨x.1 + 1, HA3.out.set 0 _, by omega, _, World.ownsRow.kept HO3.out (grown_set w3 w2.heap.size 0 _) (.inr (fun e => hne (by simpa [Value.ownBlock] using e.symm))), fun _ => ⟨by rw [List.length_append, HPRE.out]; rfl, HRC.out.symm⟩⟩, by rw [World.size_setCell]; have := HSX.out; omega, (HBEL.out.trans hbW).setCell (by dsimp only; omega) _⟩
  case done =>
    rintro D xs X hD hxs hI hKD
    have hin : InOrder xs ∧ xs.length = n := inOrder_of hxs
    obtain ⟨k, a1, hk, cs, a2, a3⟩ := hI.bx
    obtain ⟨hk2, hcs⟩ := a3 (by rw [hin.2]; exact hxs)
    rw [hin.2] at hk2
    subst hk2
    subst hcs
    have c3 := a1.cell 0
    simp only [List.getElem?_toArray, List.getElem?_cons_zero] at c3
    have HOW := Lib.hid (own_still a2 (by decide) (StillN.drop (d' := none) hKD))
    have HBD := Lib.hid (below_drop (d' := none) hI.below (by omega) hKD)
    have HKD := Lib.hid hKD
    clear hin a1 a2 a3 hI hKD hk
    refine hK1 _ _ ?_
    clear hK1
    gi_wp2
    refine ⟨by simp, .inl ⟨_, _, rfl, run_takeDeferred HKD.out, ?_⟩⟩
    refine ⟨.slice (some ⟨w.heap.size + 1, 0, none⟩) k k, ?_, HBD.out, _, _, rfl, HOW.out⟩
    simp [results, Tryd.f33, go_sem]
  case stop =>
    rintro D c pre X hD _ hI hKD
    exact hI.elim
end Go.Proofs.YtbegplfijjbpcaaDoor.No
