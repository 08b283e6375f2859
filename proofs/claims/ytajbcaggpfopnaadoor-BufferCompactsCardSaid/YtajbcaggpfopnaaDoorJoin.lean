/- Pieces are put behind those of a list; empty ones are left out. -/
import Derived.Test.YtajbcaggpfopnaaDoorIter
import Derived.Test.YtajbcaggpfopnaaDoorOwn
import Derived.Laws.AppendOwn
import Derived.Maps.AppendAt
import Derived.WalkKit
import Derived.OwnWalk
import Derived.Lib.Hide
import Derived.Outline
namespace Go.Proofs.YtajbcaggpfopnaaDoor
open Go Go.RowKit

section
variable {P : Program} (w : World)
/-- Where the slice lies behind an append: in its own block, or in a new one. -/
theorem append_block (base : Nat) (t ty e : TypeId) (i : TypeInfo) (z : Value) (size bytes : Nat) (ht : P.underlying t = some (.slice e)) (hi : P.info? e = some i) (hz : i.zero = some z)
    (hsize : i.size = size) (hby : i.bytes = bytes) (v : Value) (n : Nat) (xs : List Value) (hown : w.ownsRow base e size v n xs)
    (a : Addr) (m c : Nat) (news : List Value) (hl : news.length = m * size) (hnews : ∀ j u, news[j]? = some u → w.cell? (a.add j) = some u) (h1 : ∀ u ∈ news, u.oneCell' = true)
    (h63 : n + m ≤ maxLen) (hbytes : (n + m) * bytes ≤ 140737488355328) (h0 : 0 < m) {v' : Value} {w' : World} (hr : (Builtin.append_ #[t, t] ty #[v, .slice (some a) m c]).run P w = .ok v' w') :
    v'.ownBlock = v.ownBlock ∨ v'.ownBlock = some w.heap.size := by
  subst hsize
  subst hby
  have hsmall : n + m ≤ 9223372036854775807 := by simp only [maxLen] at h63; omega
  rcases hown.2 with ⟨rfl, rfl⟩ | ⟨g, cap, cur, rfl, hbg, hg, hnc, hcm, hcs, htake⟩
  · have hx := run_append_nil (P := P) w t ty e i z ht hi hz a m c news hl hnews h0 (by omega) (by have hb := hbytes; simp only [Nat.zero_add] at hb; omega)
    rw [hx] at hr; cases hr; exact .inr rfl
  · by_cases hroom : n + m ≤ cap
    · have hfit : n * i.size + news.length ≤ cur.size := by rw [hl, hcs, ← Nat.add_mul]; exact Nat.mul_le_mul_right _ hroom
      have hx := run_append_room (P := P) w t ty e i ht hi g n cap cur hg a m c news hl hnews h1 hroom hfit
      rw [hx] at hr; cases hr; exact .inl rfl
    · have hx := run_append_grow (P := P) w t ty e i z ht hi hz ⟨g, 0, none⟩ n cap xs hown.1 (hown.cells (g := g) rfl) a m c news hl hnews (by omega) (by omega) (growslice_fits (by omega) hbytes)
      rw [hx] at hr; cases hr; exact .inr rfl

theorem wpList_append_block {ops : Array Oper} {rest : List Oper} {o : Oper} {a : Act} {Q : Exit → Act → World → Prop} (hgd : o.guard = none) (s x : Operand) (t : TypeId)
    (ho : o.op = .call { callee := .builtin .append, args := #[s, x], argTypes := #[t, t] })
    (base : Nat) (e : TypeId) (i : TypeInfo) (z : Value) (size bytes : Nat) (ht : P.underlying t = some (.slice e)) (hi : P.info? e = some i) (hz : i.zero = some z)
    (hsize : i.size = size) (hby : i.bytes = bytes) (hzs : z.cells.size = size) (hsz : 0 < size)
    (v : Value) (n : Nat) (xs : List Value) (hs : a.eval s = v) (hown : w.ownsRow base e size v n xs)
    (ad : Addr) (m c : Nat) (news : List Value) (hx : a.eval x = .slice (some ad) m c) (hl : news.length = m * size) (hnews : ∀ j u, news[j]? = some u → w.cell? (ad.add j) = some u) (h1 : ∀ u ∈ news, u.oneCell' = true)
    (h63 : n + m ≤ maxLen) (hbytes : (n + m) * bytes ≤ 140737488355328) (hbase : base ≤ w.heap.size) (h0 : 0 < m)
    (h : ∀ v' w', w'.ownsRow base e size v' (n + m) (xs ++ news) → w.grownBy w' v.ownBlock → (v'.ownBlock = v.ownBlock ∨ v'.ownBlock = some w.heap.size) → wpList P ops Q rest (a.put o.dst v') w') : wpList P ops Q (o :: rest) a w :=
  wpList_plain hgd fun K hK => by
    obtain ⟨v', w', hr, h2, h3, _⟩ := run_append_own (P := P) w base t o.type e i z size bytes ht hi hz hsize hby hzs hsz v n xs hown ad m c news hl hnews h1 h63 hbytes hbase
    have h5 := append_block w base t o.type e i z size bytes ht hi hz hsize hby v n xs hown ad m c news hl hnews h1 h63 hbytes h0 hr
    unfold Oper.wp execOp
    simp only [ho, resolve, invoke, builtin, Sem.run_bind, Sem.run_pure, Result.andThen_ok, List.map_toArray, List.map_cons, List.map_nil, hs, hx, hr]
    exact hK _ _ (h v' w' h2 h3 h5)
end

/-- The first k of some pieces, but for the empty ones. -/
def keep (S : Nat → ByteArray) : Nat → List ByteArray
  | 0 => []
  | k + 1 => if (S k).size = 0 then keep S k else keep S k ++ [S k]
theorem keep_len (S : Nat → ByteArray) : ∀ k, (keep S k).length ≤ k
  | 0 => Nat.le_refl _
  | k + 1 => by
    have := keep_len S k
    unfold keep
    split
    · omega
    · rw [List.length_append, List.length_singleton]; omega
/-- A list of pieces as cells. -/
def cellsOf (L : List ByteArray) : List Value := L.map Value.string

/-- The slice value mv reads as the pieces S 0 .. S (len - 1), in a block that is not X's. -/
def Reads (X : Option Nat) (W : World) (mv : Value) (S : Nat → ByteArray) (len : Nat) : Prop :=
  (∃ a c, mv = .slice a 0 c ∧ len = 0) ∨ ∃ b off cap, mv = .slice (some ⟨b, off, none⟩) len cap ∧ len ≤ cap ∧ cap ≤ maxLen ∧ b < W.heap.size ∧ some b ≠ X ∧ ∀ j, j < len → W.cell? ⟨b, off + j, none⟩ = some (.string (S j))
theorem Holds.reads {n₀ : Nat} {W : World} {v : Value} {S : Nat → ByteArray} {len : Nat} (h : Holds n₀ W v S len) {X : Option Nat} (hX : ∀ k, X = some k → n₀ ≤ k) (hn : n₀ ≤ W.heap.size) : Reads X W v S len := by
  rcases h with ⟨e, e0⟩ | ⟨b, off, cap, e, h1, h2, hb, hc⟩
  · exact .inl ⟨none, 0, by rw [e], e0⟩
  · exact .inr ⟨b, off, cap, e, h1, h2, by omega, fun e' => by have := hX b e'.symm; omega, hc⟩

theorem Tryd.infoPiece : (Tryd.prog.info? 51).map (fun i => (i.zero, i.size, i.bytes)) = some (some (.agg #[.string ⟨#[]⟩]), 1, 16) := by kernel_rfl

set_option maxHeartbeats 2000000 in
set_option maxRecDepth 100000 in
/-- join(list, more...): the list's pieces, and behind them those of more that are not empty. -/
theorem join_any (base : Nat) (v mv : Value) (L : List ByteArray) (S : Nat → ByteArray) (m : Nat) (hb : L.length + m ≤ 2000000) (w : World)
    (hown : w.ownsRow base 51 1 v L.length (cellsOf L)) (hbase : base ≤ w.heap.size) (hmore : Reads v.ownBlock w mv S m) :
    Calls Tryd.prog 24 #[v, mv] w fun e w' => ∃ v', e = .returned v' ∧ w'.ownsRow base 51 1 v' (L ++ keep S m).length (cellsOf (L ++ keep S m)) ∧ Below base w w' := by
  obtain ⟨i0, hi, hz0, hz1, hz2⟩ := info_parts Tryd.infoPiece
  rcases hmore with ⟨a, c, rfl, rfl⟩ | ⟨b, off, cap, rfl, hmc, hcm, hbl, hne, hcs⟩
  · go_enter Tryd.func24, Tryd.ntmps24
    go_wp2
    go_loopw [0, 6, 9] (fun u _ i wr => u = v ∧ i = .int .i64 0 ∧ wr = w) (fun _ _ _ _ => 0)
    case atStart => exact ⟨rfl, rfl, rfl⟩
    case round =>
      obtain ⟨rfl, rfl, rfl⟩ := hrel
      go_wp2
      go_ret
      exact ⟨_, rfl, by simpa [keep] using hown, Below.refl _ _⟩
  · unfold maxLen at hcm
    have HOWN := Lib.hid hown
    have HNE := Lib.hid hne
    clear hown hne
    go_enter Tryd.func24, Tryd.ntmps24
    go_wp2
    go_loopw [0, 6, 9] (fun u _ i wr => ∃ k : Nat, k ≤ m ∧ i = .int .i64 k ∧ wr.ownsRow base 51 1 u (L ++ keep S k).length (cellsOf (L ++ keep S k)) ∧ Below base w wr ∧ base ≤ wr.heap.size ∧ b < wr.heap.size ∧ some b ≠ u.ownBlock ∧ (∀ j, j < m → wr.cell? ⟨b, off + j, none⟩ = some (.string (S j))))
      (fun _ _ i _ => m - (intOf i).toNat)
    case atStart => exact ⟨0, Nat.zero_le _, rfl, by simpa [keep] using HOWN.out, Below.refl _ _, hbase, hbl, HNE.out, hcs⟩
    case round =>
      obtain ⟨k, hk, rfl, hown, hB1, hbs, hbl1, hne1, hcs1⟩ := hrel
      have HOWN1 := Lib.hid hown
      have HNE1 := Lib.hid hne1
      have HB1 := Lib.hid hB1
      have HCS := Lib.hid hcs1
      clear hown hne1 hB1 hcs1 hcs
      by_cases hlt : k < m
      · have hck := HCS.out k hlt
        by_cases h0 : (S k).size = 0
        · have hSk : S k = ⟨#[]⟩ := by
            apply ByteArray.ext
            exact Array.eq_empty_of_size_eq_zero h0
          have HK : Hid (keep S (k + 1) = keep S k) := by show (if (S k).size = 0 then keep S k else _) = _; rw [if_pos h0]
          go_wp2
          go_roundw
          case rel =>
            refine ⟨k + 1, by omega, by simp, ?_, HB1.out.alloc hbs _, by simp; omega, by simp; omega, HNE1.out, fun j hj => ?_⟩
            · rw [HK.out]; exact HOWN1.out.alloc _
            · rw [← HCS.out j hj]; exact World.cell?_of_block (w := wr) (Below.heap_alloc wr _ _ hbl1)
          case measure => simp [intOf]; omega
        · have hSl : ¬ (S k).toList = [] := fun e => h0 (by rw [Lib.size_eq, ← ByteArray.toList_eq, e]; rfl)
          have HK : Hid (keep S (k + 1) = keep S k ++ [S k]) := by show (if (S k).size = 0 then keep S k else _) = _; rw [if_neg h0]
          have hkl := keep_len S k
          have hc1 : ∀ (j : Nat) (u : Value), [Value.string (S k)][j]? = some u → ((wr.alloc (.cells #[.string (S k)] 51)).alloc (.cells #[.string (S k)] 51)).cell? ((⟨wr.heap.size + 1, 0, none⟩ : Addr).add j) = some u := by
            have := cell_one_new (wr.alloc (.cells #[.string (S k)] 51)) (.string (S k)) 51
            simpa using this
          have hc2 : ∀ u ∈ [Value.string (S k)], u.oneCell' = true := by intro u hu; simp at hu; subst hu; rfl
          have hc3 : (L ++ keep S k).length + 1 ≤ maxLen := by unfold maxLen; rw [List.length_append]; omega
          have hc4 : ((L ++ keep S k).length + 1) * 16 ≤ 140737488355328 := by rw [List.length_append]; omega
          have hc5 : base ≤ ((wr.alloc (.cells #[.string (S k)] 51)).alloc (.cells #[.string (S k)] 51)).heap.size := by simp; omega
          have H1 := Lib.hid hc1
          have H2 := Lib.hid hc2
          have H3 := Lib.hid hc3
          have H4 := Lib.hid hc4
          have H5 := Lib.hid hc5
          clear hc1 hc2 hc3 hc4 hc5
          go_wp2_with (at_builtin; refine wpList_append_block _ rfl (.tmp 16) (.tmp 18) 48 rfl base 51 i0 (.agg #[.string ⟨#[]⟩]) 1 16 Tryd.underlying48 hi hz0 hz1 hz2 rfl (by decide) u0 _ _ rfl ((HOWN1.out.alloc _).alloc _) ⟨wr.heap.size + 1, 0, none⟩ 1 1 [.string (S k)] rfl rfl H1.out H2.out H3.out H4.out H5.out (by decide) ?_; intro v' w1 hown' hgrow hblk; have HG := Lib.hid hgrow; have HBL := Lib.hid hblk; have HO := Lib.hid hown'; clear hown' hgrow hblk)
          go_roundw
          case rel =>
            have hgrow := HG.out
            have hlt1 := HOWN1.out.lt
            refine ⟨k + 1, by omega, by simp, ?_, ?_, ?_, ?_, ?_, fun j hj => ?_⟩
            · have e1 : (L ++ keep S (k + 1)).length = (L ++ keep S k).length + 1 := by rw [HK.out, ← List.append_assoc, List.length_append, List.length_singleton]
              have e2 : cellsOf (L ++ keep S (k + 1)) = cellsOf (L ++ keep S k) ++ [.string (S k)] := by rw [HK.out, ← List.append_assoc]; simp [cellsOf]
              rw [e1, e2]; exact HO.out
            · exact ((HB1.out.alloc hbs _).alloc (by simp; omega) _).grown hgrow (by simp; omega) (fun j ej => (hlt1 j ej).1)
            · have := hgrow.size; simp at this; omega
            · have := hgrow.size; simp at this; omega
            · rcases HBL.out with e | e
              · rw [e]; exact HNE1.out
              · rw [e]; simp; omega
            · have h9 := hgrow.block b (by simp; omega) HNE1.out
              rw [← HCS.out j hj]
              refine World.cell?_of_block (w := wr) (h9.trans ?_)
              rw [Below.heap_alloc _ _ _ (by simp; omega), Below.heap_alloc _ _ _ hbl1]
          case measure => simp [intOf]; omega
      · obtain rfl : k = m := by omega
        go_wp2
        go_ret
        exact ⟨_, rfl, HOWN1.out, HB1.out⟩
end Go.Proofs.YtajbcaggpfopnaaDoor
