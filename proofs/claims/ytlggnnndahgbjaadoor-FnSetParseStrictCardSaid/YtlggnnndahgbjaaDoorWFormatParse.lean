/- The walk of the law on texts that parse back. -/
import Derived.Test.YtlggnnndahgbjaaDoorParseS
import Derived.Test.YtlggnnndahgbjaaDoorDraw2
namespace Go.Proofs.YtlggnnndahgbjaaDoor
open Go.RowKit

set_option maxHeartbeats 800000 in
theorem drawSetFormat_any (A : Option Addr) (c : Nat) (l : List Int) (w : World) (ha : BL w A l) (hc : l.length ≤ c) (hm : l.length ≤ maxLen) (hmc : c ≤ maxLen) :
    Calls Tryd.prog 5 #[.slice A l.length c] w fun e w' => ∃ s : List Int, s.length ≤ 7 ∧ New w s e w' := by
  go_enter Tryd.func5, Tryd.ntmps5
  go_wp2_with fail
  refine (l6Open_any _ _ _ _ ha hc hm hmc).mono ?_
  rintro e w1 ⟨rfl, hr1, b1⟩
  go_wp2_with fail
  refine (l91Set_any _ _ _ hr1 (by omega)).mono ?_
  rintro e w2 ⟨a, A2, c2, q2, ha7, rfl, o2, hr2, hq2, g2⟩
  have hlt := hr1.lt
  have D := Lib.hid (show ∃ s : List Int, s.length ≤ 7 ∧ New w s (.returned (.slice A2 a.length c2)) w2 from ⟨a, ha7, New.mk (own_base o2 b1.size) (b1.grown g2 b1.size (fun k hk => by injection hk with hk; omega))⟩)
  clear o2 hr1 hr2 g2 b1
  go_wp2
  go_ret
  exact D.out

theorem text_toList (l : List UInt8) : (⟨l.toArray⟩ : ByteArray).toList = l := by rw [ByteArray.toList_eq]
theorem hit_fmt {s : List Int} (h : vld s = true) : Hit (⟨(fmt s).toArray⟩ : ByteArray).toList (msk s) := ⟨msk_lt h, by rw [text_toList, mem_msk h]⟩
theorem fmt_ne {s : List Int} (h : vld s = true) : fmt s ≠ [] := by have := (fmt_facts (msk_lt h)).2.1; rwa [mem_msk h] at this

set_option maxHeartbeats 1600000 in
theorem walkFormatParse (A : Option Addr) (c : Nat) (l : List Int) (w : World) (ha : BL w A l) (hc : l.length ≤ c) (hmc : c ≤ maxLen) :
    Calls Tryd.prog 3 #[.slice A l.length c] w fun e w' => e = .returned (.bool true) ∧ Below w.heap.size w w' := by
  have hm : l.length ≤ maxLen := Nat.le_trans hc hmc
  by_cases hl : l.length ≤ 1048576
  · go_enter Tryd.func3, Tryd.ntmps3
    go_wp2_with fail
    refine (drawSetFormat_any _ _ _ _ ha hc hm hmc).mono ?_
    rintro e w1 ⟨s, hs7, As, cs, rfl, os, b1⟩
    have is := (IL.of_own os).1
    clear os
    go_wp2_with fail
    refine (implFormat_any _ _ _ _ is (by omega)).mono ?_
    rintro e w2 ⟨rfl, b2⟩
    have is := is.below b2
    have B2 := below_step b1 b2
    clear b1 b2
    go_wp2_with fail
    refine (specFormat_any _ _ _ _ is (by omega)).mono ?_
    rintro e w3 ⟨rfl, b3⟩
    have is := is.below b3
    have B3 := below_step B2 b3
    clear b3 B2
    cases hv : vld s
    · rw [show fmtR s = [] by simp [fmtR, hv]]
      have HV := Lib.hid hv
      clear hv
      go_wp2_with fail
      refine (specFormat_any _ _ _ _ is (by omega)).mono ?_
      rintro e w4 ⟨rfl, b4⟩
      rw [show fmtR s = [] by simp [fmtR, HV.out]]
      have B4 := below_step B3 b4
      clear b4 B3
      go_wp2
      go_ret
      exact ⟨rfl, B4⟩
    · rw [show fmtR s = fmt s by simp [fmtR, hv]]
      have HV := Lib.hid hv
      have hne : (fmt s).isEmpty = false := by simpa using fmt_ne hv
      clear hv
      go_wp2_with fail
      refine (implParse_any _ _).mono ?_
      rintro e w4 hp
      have hn : New2 w3 s true e w4 := by
        rcases hp with ⟨k, hk, hn⟩ | ⟨hms, _⟩
        · have e1 : mem k = s := by rw [← (hit_out hk).1, (hit_out (hit_fmt HV.out)).1, mem_msk HV.out]
          rwa [e1] at hn
        · exact absurd (hit_fmt HV.out).2 (hms _ (hit_fmt HV.out).1)
      clear hp
      obtain ⟨AX, cX, rfl, oX, b4⟩ := hn
      have iX := (IL.of_own oX).1
      have is := is.below b4
      have B4 := below_step B3 b4
      clear oX b4 B3
      go_wp2_with fail
      refine (sameInts_yes _ _ _ _ _ _ iX is (by omega)).mono ?_
      rintro e w5 ⟨rfl, b5⟩
      have B5 := below_step B4 b5
      clear b5 B4
      go_wp2
      go_ret
      exact ⟨rfl, B5⟩
  · go_enter Tryd.func3, Tryd.ntmps3
    unfold maxLen at hm
    go_wp2
    go_ret
    exact ⟨rfl, Below.refl _ _⟩
end Go.Proofs.YtlggnnndahgbjaaDoor
