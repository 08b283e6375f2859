/- Glyphs, Ascii and First, called on any text. -/
import Derived.Test.YtldffmnmofmkaaaDoorGlSpell
namespace Go.Proofs.YtldffmnmofmkaaaDoor
open Go Go.RowKit

/-- read(s). -/
theorem read_c (s : ByteArray) (w : World) :
    Calls Tryd.prog 29 #[.string s] w fun e W' => e = .returned (.pointer (some ⟨w.heap.size, 0, none⟩)) ∧ W' = w.alloc (.cells #[.string s, .slice none 0 0] 58) := by
  go_enter Tryd.func29, Tryd.ntmps29
  go_wp2
  go_ret
  exact ⟨rfl, rfl⟩

theorem rd_new (s : ByteArray) (w : World) : Rd w.heap.size w.heap.size (w.alloc (.cells #[.string s, .slice none 0 0] 58)) s [] :=
  ⟨.slice none 0 0, Row.new w _ _, ⟨rfl, .inl ⟨rfl, rfl⟩⟩⟩

theorem glyphs_c (T : List UInt8) (hT : T.length ≤ 10000) (w : World) (hG : Ground w) :
    Calls Tryd.prog 20 #[.string (bs T)] w fun e W' => e = .returned (.string (bs (turn gl T 0))) ∧ Below w.heap.size w W' := by
  have HG := Lib.hid (hG.below ((Below.refl _ w).alloc (Nat.le_refl _) (.cells #[.string (bs T), .slice none 0 0] 58)))
  have hlt := hG.lt
  go_enter Tryd.func20, Tryd.ntmps20
  go_wp2_with (first
    | (go_at_call 29; refine (read_c _ _).mono ?_; rintro e w1 ⟨rfl, rfl⟩)
    | (go_at_call 30; refine (spell_c w.heap.size w.heap.size 31 gl gl_len (enters_of Tryd.func31 (by kernel_rfl) rfl) (fun k _ W => drawn_c k W) T hT (Nat.le_refl _) hlt _ HG.out (rd_new _ _)).mono ?_; rintro e w2 ⟨rfl, hb2⟩; have HB2 := Lib.hid hb2; clear hb2))
  go_ret
  exact ⟨rfl, ((Below.refl _ w).alloc (Nat.le_refl _) _).trans HB2.out⟩

theorem ascii_c (T : List UInt8) (hT : T.length ≤ 10000) (w : World) (hG : Ground w) :
    Calls Tryd.prog 22 #[.string (bs T)] w fun e W' => e = .returned (.string (bs (turn ty T 0))) ∧ Below w.heap.size w W' := by
  have HG := Lib.hid (hG.below ((Below.refl _ w).alloc (Nat.le_refl _) (.cells #[.string (bs T), .slice none 0 0] 58)))
  have hlt := hG.lt
  go_enter Tryd.func22, Tryd.ntmps22
  go_wp2_with (first
    | (go_at_call 29; refine (read_c _ _).mono ?_; rintro e w1 ⟨rfl, rfl⟩)
    | (go_at_call 30; refine (spell_c w.heap.size w.heap.size 32 ty ty_len (enters_of Tryd.func32 (by kernel_rfl) rfl) (fun k _ W => typed_c k W) T hT (Nat.le_refl _) hlt _ HG.out (rd_new _ _)).mono ?_; rintro e w2 ⟨rfl, hb2⟩; have HB2 := Lib.hid hb2; clear hb2))
  go_ret
  exact ⟨rfl, ((Below.refl _ w).alloc (Nat.le_refl _) _).trans HB2.out⟩

/-- What First tells: the glyph, or none. -/
def optG : Option Nat → List UInt8
  | some k => gl k
  | none => []

theorem First_c (T : List UInt8) (w : World) (hG : Ground w) :
    Calls Tryd.prog 13 #[.string (bs T)] w fun e W' => e = .returned (.tuple #[.string (bs (optG (firstK T))), .int .i64 ((fsz T : Nat) : Int)]) ∧ Below w.heap.size w W' := by
  have hF := first_c (bs T) w hG
  rw [bs_list] at hF
  obtain ⟨g, d, c, hv, hgd⟩ : ∃ (g d : ByteArray) (c : Int), optV (firstK T) = .agg #[.string g, .string d, .int .i64 c] ∧ g = bs (optG (firstK T)) := by
    cases firstK T with
    | none => exact ⟨⟨#[]⟩, ⟨#[]⟩, 0, rfl, rfl⟩
    | some k => exact ⟨_, _, _, rfl, rfl⟩
  rw [hv] at hF
  rw [← hgd]
  obtain ⟨z, hz⟩ : ∃ z, z = fsz T := ⟨_, rfl⟩
  rw [← hz] at hF ⊢
  have HF := Lib.hid hF
  clear hF hv hgd hz
  go_enter Tryd.func13, Tryd.ntmps13
  go_wp2_with (go_at_call 26; refine HF.out.mono ?_; rintro e w1 ⟨rfl, hb1⟩; have HB1 := Lib.hid hb1; clear hb1)
  exact bodyPost_ret (v := .tuple #[.string g, .int .i64 (z : Int)]) (by simp [results, Tryd.f13, go_sem]) rfl ⟨rfl, HB1.out.alloc HB1.out.size _⟩
end Go.Proofs.YtldffmnmofmkaaaDoor
