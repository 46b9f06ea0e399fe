/- The walk of the law on strict parsing. -/
import Derived.Test.YtlggnnndahgbjaaDoorWParseStrict
import Derived.Test.YtlggnnndahgbjaaDoorWSetParse
namespace Go.Proofs.YtlggnnndahgbjaaDoor
open Go.RowKit

theorem res_true {t : ByteArray} {L : List Int} (h : Res t.toList L true) : vld L = true ∧ S (fmtR L) = .string t := by
  rcases h with ⟨k, ⟨hk, e⟩, rfl, _⟩ | ⟨_, _, hb⟩
  · refine ⟨vld_mem hk, ?_⟩
    rw [show fmtR (mem k) = fmt (mem k) by simp [fmtR, vld_mem hk], e, ByteArray.toList_eq]
  · exact absurd hb (by simp)

set_option maxHeartbeats 1600000 in
theorem walkParseStrict (A : Option Addr) (c : Nat) (l : List Int) (w : World) (ha : BL w A l) (hc : l.length ≤ c) (hmc : c ≤ maxLen) :
    Calls Tryd.prog 4 #[.slice A l.length c] w fun e w' => e = .returned (.bool true) ∧ Below w.heap.size w w' := by
  have hm : l.length ≤ maxLen := Nat.le_trans hc hmc
  by_cases hl : l.length ≤ 1048576
  · go_enter Tryd.func4, Tryd.ntmps4
    go_wp2_with fail
    refine (drawSetParse_any _ _ _ _ ha hc hm hmc).mono ?_
    rintro e w1 ⟨⟨t, ht, rfl⟩, b1⟩
    obtain ⟨R, bb, hres⟩ := res_ex t.toList
    have hlen := res_len hres
    have HRES := Lib.hid hres
    clear hres
    go_wp2_with fail
    refine ((specParse_any _ _ (by omega)).mono fun _ _ h => res_one HRES.out h).mono ?_
    rintro e w2 ⟨AW, cW, rfl, oW, b2⟩
    have iW := (IL.of_own oW).1
    have B2 := below_step b1 b2
    clear oW b1 b2
    go_wp2_with fail
    refine ((implParse_any _ _).mono fun _ _ h => res_one HRES.out h).mono ?_
    rintro e w3 ⟨AG, cG, rfl, oG, b3⟩
    have iG := (IL.of_own oG).1
    have iW := iW.below b3
    have B3 := below_step B2 b3
    clear oG b3 B2
    cases bb
    · go_wp2_with fail
      refine (sameInts_yes _ _ _ _ _ _ iG iW (by omega)).mono ?_
      rintro e w4 ⟨rfl, b4⟩
      have iW := iW.below b4
      have iG := iG.below b4
      have B4 := below_step B3 b4
      clear b4 B3
      go_wp2_with fail
      refine (sameInts_yes _ _ _ _ _ _ iG iW (by omega)).mono ?_
      rintro e w5 ⟨rfl, b5⟩
      have B5 := below_step B4 b5
      clear b5 B4
      go_wp2
      go_ret
      exact ⟨rfl, B5⟩
    · have HR := Lib.hid (res_true HRES.out)
      go_wp2_with fail
      refine (sameInts_yes _ _ _ _ _ _ iG iW (by omega)).mono ?_
      rintro e w4 ⟨rfl, b4⟩
      have iG := iG.below b4
      have B4 := below_step B3 b4
      clear b4 B3
      go_wp2_with fail
      refine (implValid_any _ _ _ _ iG (by omega)).mono ?_
      rintro e w' ⟨rfl, rfl⟩
      rw [HR.out.1]
      go_wp2_with fail
      refine (implFormat_any _ _ _ _ iG (by omega)).mono ?_
      rintro e w5 ⟨rfl, b5⟩
      rw [HR.out.2]
      have B5 := below_step B4 b5
      clear b5 B4
      go_wp2
      go_ret
      exact ⟨rfl, B5⟩
  · go_enter Tryd.func4, Tryd.ntmps4
    unfold maxLen at hm
    go_wp2
    go_ret
    exact ⟨rfl, Below.refl _ _⟩
end Go.Proofs.YtlggnnndahgbjaaDoor
