/- The walk of the law that masks identify sets. -/
import Derived.Test.YtlbhkeijfcpffaaLaw1
namespace Go.Proofs.Ytlbhkeijfcpffaa
open Go.RowKit

set_option maxHeartbeats 3200000 in
theorem walkMaskRoundTrip (A B : Option Addr) (c d : Nat) (l m : List Int) (w : World) (ha : BL w A l) (hc : l.length ≤ c) (hmc : c ≤ maxLen) (hd : m.length ≤ d) (hmd : d ≤ maxLen) :
    Calls Try.prog 10 #[.slice A l.length c, .slice B m.length d] w fun e w' => e = .returned (.bool true) ∧ Below w.heap.size w w' := by
  have hm : l.length ≤ maxLen := Nat.le_trans hc hmc
  have hmm : m.length ≤ maxLen := Nat.le_trans hd hmd
  by_cases hl : l.length ≤ 1048576 ∧ m.length ≤ 1048576
  · obtain ⟨hl, hl2⟩ := hl
    go_enter Try.func10, Try.ntmps10
    go_wp2_with fail
    refine (drawSetMask_any _ _ _ _ ha hc hm hmc).mono ?_
    rintro e w1 ⟨a, ha7, A1, c1, rfl, oa, b1⟩
    have Bw1 := b1
    clear b1
    have ia := (IL.of_own oa).1
    clear oa
    cases hva : vld a
    · have HA := Lib.hid hva
      clear hva
      have HM := Lib.hid (mskR_f HA.out)
      go_wp2_with fail
      refine (implMask_any _ _ _ _ ia (by omega)).mono ?_
      rintro e w' ⟨he, rfl⟩
      rw [HM.out] at he
      subst he
      go_wp2_with fail
      refine (specMask_any _ _ _ _ ia (by omega)).mono ?_
      rintro e w2 ⟨he, b2⟩
      rw [HM.out] at he
      subst he
      have ia := ia.below b2
      have Bw2 := below_step Bw1 b2
      clear b2 Bw1
      go_wp2_with fail
      refine (specMask_any _ _ _ _ ia (by omega)).mono ?_
      rintro e w3 ⟨he, b3⟩
      rw [HM.out] at he
      subst he
      have ia := ia.below b3
      have Bw3 := below_step Bw2 b3
      clear b3 Bw2
      go_wp2
      go_ret
      exact ⟨rfl, Bw3⟩
    · have HA := Lib.hid hva
      clear hva
      have HM := Lib.hid (memR_msk HA.out)
      have HC := Lib.hid (vld_mem (nmask_lt m.length))
      obtain ⟨p1, p2⟩ := mskR_rng a
      have p0 : 0 ≤ mskR a := by rw [mskR_t HA.out]; omega
      go_wp2_with fail
      refine (implMask_any _ _ _ _ ia (by omega)).mono ?_
      rintro e w' ⟨rfl, rfl⟩
      go_wp2_with fail
      refine (specMask_any _ _ _ _ ia (by omega)).mono ?_
      rintro e w2 ⟨rfl, b2⟩
      have ia := ia.below b2
      have Bw2 := below_step Bw1 b2
      clear b2 Bw1
      go_wp2_with fail
      refine (implOfMask_any _ _).mono ?_
      rw [HM.out.1, HM.out.2]
      rintro e w3 ⟨Ax, cx, rfl, ox, b3⟩
      have ia := ia.below b3
      have Bw3 := below_step Bw2 b3
      clear b3 Bw2
      have ix := (IL.of_own ox).1
      clear ox
      go_wp2_with fail
      refine (setOf_any _ _ hl2).mono ?_
      rintro e w4 ⟨Ac, cc, rfl, oc, b4⟩
      have ia := ia.below b4
      have ix := ix.below b4
      have Bw4 := below_step Bw3 b4
      clear b4 Bw3
      have ic := (IL.of_own oc).1
      clear oc
      go_wp2_with fail
      refine (sameInts_yes _ _ _ _ _ _ ix ia (by omega)).mono ?_
      rintro e w5 ⟨rfl, b5⟩
      have ia := ia.below b5
      have ix := ix.below b5
      have ic := ic.below b5
      have Bw5 := below_step Bw4 b5
      clear b5 Bw4
      clear ix
      have HE := Lib.hid (mask_eq HC.out HA.out)
      cases ht : same (mem (nmask m.length)) a
      · have HT := Lib.hid ht
        clear ht
        have hme : (mskR (mem (nmask m.length)) == mskR a) = same (mem (nmask m.length)) a := HE.out
        rw [HT.out] at hme
        go_wp2_with fail
        refine (implMask_any _ _ _ _ ic (bigM _)).mono ?_
        rintro e w' ⟨rfl, rfl⟩
        go_wp2_with fail
        refine (sameInts_any _ _ _ _ _ _ _ ic ia (bigM _)).mono ?_
        rintro e w6 ⟨he, b6⟩
        rw [HT.out] at he
        subst he
        have ia := ia.below b6
        have ic := ic.below b6
        have Bw6 := below_step Bw5 b6
        clear b6 Bw5
        go_wp2
        go_ret
        exact ⟨rfl, Bw6⟩
      · have HT := Lib.hid ht
        clear ht
        have hme : (mskR (mem (nmask m.length)) == mskR a) = same (mem (nmask m.length)) a := HE.out
        rw [HT.out] at hme
        go_wp2_with fail
        refine (implMask_any _ _ _ _ ic (bigM _)).mono ?_
        rintro e w' ⟨rfl, rfl⟩
        go_wp2_with fail
        refine (sameInts_any _ _ _ _ _ _ _ ic ia (bigM _)).mono ?_
        rintro e w6 ⟨he, b6⟩
        rw [HT.out] at he
        subst he
        have ia := ia.below b6
        have ic := ic.below b6
        have Bw6 := below_step Bw5 b6
        clear b6 Bw5
        go_wp2
        go_ret
        exact ⟨rfl, Bw6⟩
  · by_cases hl1 : l.length ≤ 1048576
    · have hl2 : ¬ m.length ≤ 1048576 := fun h => hl ⟨hl1, h⟩
      clear hl
      go_enter Try.func10, Try.ntmps10
      unfold maxLen at hm hmm
      go_wp2
      go_ret
      exact ⟨rfl, Below.refl _ _⟩
    · clear hl
      go_enter Try.func10, Try.ntmps10
      unfold maxLen at hm hmm
      go_wp2
      go_ret
      exact ⟨rfl, Below.refl _ _⟩
end Go.Proofs.Ytlbhkeijfcpffaa
