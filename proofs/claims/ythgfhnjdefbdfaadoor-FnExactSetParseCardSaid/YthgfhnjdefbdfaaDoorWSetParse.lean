/- The walk of the law on SetParse. -/
import Derived.Test.YthgfhnjdefbdfaaDoorParseS
import Derived.Test.YthgfhnjdefbdfaaDoorOwn
namespace Go.Proofs.YthgfhnjdefbdfaaDoor
open Go.RowKit

/-- What a text parses to. -/
def Res (t : List UInt8) (L : List Int) (b : Bool) : Prop := (∃ k, Hit t k ∧ L = mem k ∧ b = true) ∨ (Miss t ∧ L = [] ∧ b = false)
theorem res_ex (t : List UInt8) : ∃ L b, Res t L b := by
  by_cases h : ∃ k, Hit t k
  · obtain ⟨k, hk⟩ := h
    exact ⟨mem k, true, .inl ⟨k, hk, rfl, rfl⟩⟩
  · exact ⟨[], false, .inr ⟨fun j hj e => h ⟨j, hj, e⟩, rfl, rfl⟩⟩
theorem res_one {t : List UInt8} {L : List Int} {b : Bool} {w w' : World} {e : Ending} (h : Res t L b) (hp : (∃ k, Hit t k ∧ New2 w (mem k) true e w') ∨ (Miss t ∧ New2 w [] false e w')) : New2 w L b e w' := by
  rcases h with ⟨k, hk, rfl, rfl⟩ | ⟨hm, rfl, rfl⟩
  · rcases hp with ⟨k', hk', hn⟩ | ⟨hm, _⟩
    · rw [← (hit_out hk).1, (hit_out hk').1]; exact hn
    · exact absurd hk.2 (hm k hk.1)
  · rcases hp with ⟨k', hk', _⟩ | ⟨_, hn⟩
    · exact absurd hk'.2 (hm k' hk'.1)
    · exact hn
theorem res_len {t : List UInt8} {L : List Int} {b : Bool} (h : Res t L b) : L.length ≤ 6 := by
  rcases h with ⟨k, _, rfl, _⟩ | ⟨_, rfl, _⟩
  · exact mem_len k
  · simp

set_option maxHeartbeats 1600000 in
theorem walkSetParse (t : ByteArray) (w : World) (hm : t.size ≤ maxLen) :
    Calls Tryd.prog 4 #[.string t] w fun e w' => e = .returned (.bool true) ∧ Below w.heap.size w w' := by
  unfold maxLen at hm
  obtain ⟨R, bb, hres⟩ := res_ex t.toList
  have hlen := res_len hres
  have HRES := Lib.hid hres
  clear hres
  by_cases hl : t.size ≤ 1048576
  · go_enter Tryd.func4, Tryd.ntmps4
    go_wp2_with fail
    refine ((specParse_any _ _ hl).mono fun _ _ h => res_one HRES.out h).mono ?_
    rintro e w1 ⟨AW, cW, rfl, oW, b1⟩
    have OW := Own.of_new oW
    clear oW
    go_wp2_with fail
    refine ((implParse_any _ _).mono fun _ _ h => res_one HRES.out h).mono ?_
    rintro e w2 ⟨AG, cG, rfl, oG, b2⟩
    have OG := Own.of_new oG
    have OW := OW.below b2
    have B2 := below_step b1 b2
    have s1 := b1.size
    clear oG b1 b2
    go_wp2_with fail
    refine (eqIntS_yes _ _ _ _ _ _ OG.il OW.il (by omega)).mono ?_
    rintro e w3 ⟨rfl, b3⟩
    have OG := OG.below b3
    have OW := OW.below b3
    have B3 := below_step B2 b3
    clear b3 B2
    go_wp2_with fail
    refine (mark_own _ _ _ 1 _ (by omega) _ OG (by omega) (by omega)).mono ?_
    rintro e w4 ⟨rfl, OG2, g4⟩
    have OW := OW.other OG g4 (by omega)
    have B4 := OG.keeps B3 (by omega) g4
    clear g4 B3 OG
    go_wp2_with fail
    refine (held_own _ _ 1 _ _ (by omega) _ OG2.il (by omega) (by omega)).mono ?_
    rintro e w' ⟨rfl, rfl⟩
    go_wp2_with fail
    refine ((implParse_any _ _).mono fun _ _ h => res_one HRES.out h).mono ?_
    rintro e w5 ⟨AH, cH, rfl, oH, b5⟩
    have OW := OW.below b5
    have OG2 := OG2.below b5
    have B5 := below_step B4 b5
    clear b5 B4
    go_wp2_with fail
    refine (eqIntS_yes _ _ _ _ _ _ (IL.of_own oH).1 OW.il (by omega)).mono ?_
    rintro e w6 ⟨rfl, b6⟩
    have OG2 := OG2.below b6
    have B6 := below_step B5 b6
    clear b6 B5 oH OW
    go_wp2_with fail
    refine (held_own _ _ 1 _ _ (by omega) _ OG2.il (by omega) (by omega)).mono ?_
    rintro e w' ⟨rfl, rfl⟩
    clear OG2
    go_wp2
    go_ret
    exact ⟨rfl, B6⟩
  · go_enter Tryd.func4, Tryd.ntmps4
    go_wp2
    go_ret
    exact ⟨rfl, Below.refl _ _⟩
end Go.Proofs.YthgfhnjdefbdfaaDoor
