/- The walk of the law on subsets. -/
import Derived.Test.YtlbhkeijfcpffaaLaw1
namespace Go.Proofs.Ytlbhkeijfcpffaa
open Go.RowKit

set_option maxHeartbeats 3200000 in
theorem walkSubsetLaw (A : Option Addr) (c : Nat) (l : List Int) (w : World) (ha : BL w A l) (hc : l.length ≤ c) (hmc : c ≤ maxLen) :
    Calls Try.prog 8 #[.slice A l.length c] w fun e w' => e = .returned (.bool true) ∧ Below w.heap.size w w' := by
  have hm : l.length ≤ maxLen := Nat.le_trans hc hmc
  by_cases hl : l.length ≤ 1048576
  · go_enter Try.func8, Try.ntmps8
    go_wp2_with fail
    refine (drawSetSubset_any _ _ _ _ ha hc hm hmc).mono ?_
    rintro e w1 ⟨a, b, A1, B1, c1, d1, ha7, hb7, rfl, ia, ib, b1⟩
    have Bw1 := b1
    clear b1
    cases hs : subsR a b
    · have HS := Lib.hid hs
      clear hs
      go_wp2_with fail
      refine (implSubset_any _ _ _ _ _ _ _ ia ib (by omega) (by omega)).mono ?_
      rintro e w' ⟨he, rfl⟩
      rw [HS.out] at he
      subst he
      go_wp2_with fail
      refine (specSubset_any _ _ _ _ _ _ _ ia ib (by omega) (by omega)).mono ?_
      rintro e w2 ⟨he, b2⟩
      rw [HS.out] at he
      subst he
      have ia := ia.below b2
      have ib := ib.below b2
      have Bw2 := below_step Bw1 b2
      clear b2 Bw1
      cases hva : vld a
      · have HA := Lib.hid hva
        clear hva
        go_wp2_with fail
        refine (specValid_f _ _ _ _ ia (by omega) HA.out).mono ?_
        rintro e w3 ⟨rfl, b3⟩
        have ia := ia.below b3
        have ib := ib.below b3
        have Bw3 := below_step Bw2 b3
        clear b3 Bw2
        go_wp2_with fail
        refine (specSubset_any _ _ _ _ _ _ _ ia ib (by omega) (by omega)).mono ?_
        rintro e w4 ⟨he, b4⟩
        rw [HS.out] at he
        subst he
        have ia := ia.below b4
        have ib := ib.below b4
        have Bw4 := below_step Bw3 b4
        clear b4 Bw3
        go_wp2
        go_ret
        exact ⟨rfl, Bw4⟩
      · have HA := Lib.hid hva
        clear hva
        go_wp2_with fail
        refine (specValid_t _ _ _ _ ia (by omega) HA.out).mono ?_
        rintro e w3 ⟨rfl, b3⟩
        have ia := ia.below b3
        have ib := ib.below b3
        have Bw3 := below_step Bw2 b3
        clear b3 Bw2
        cases hvb : vld b
        · have HB := Lib.hid hvb
          clear hvb
          go_wp2_with fail
          refine (specValid_f _ _ _ _ ib (by omega) HB.out).mono ?_
          rintro e w4 ⟨rfl, b4⟩
          have ia := ia.below b4
          have ib := ib.below b4
          have Bw4 := below_step Bw3 b4
          clear b4 Bw3
          go_wp2_with fail
          refine (specSubset_any _ _ _ _ _ _ _ ia ib (by omega) (by omega)).mono ?_
          rintro e w5 ⟨he, b5⟩
          rw [HS.out] at he
          subst he
          have ia := ia.below b5
          have ib := ib.below b5
          have Bw5 := below_step Bw4 b5
          clear b5 Bw4
          go_wp2
          go_ret
          exact ⟨rfl, Bw5⟩
        · have HB := Lib.hid hvb
          clear hvb
          go_wp2_with fail
          refine (specValid_t _ _ _ _ ib (by omega) HB.out).mono ?_
          rintro e w4 ⟨rfl, b4⟩
          have ia := ia.below b4
          have ib := ib.below b4
          have Bw4 := below_step Bw3 b4
          clear b4 Bw3
          go_wp2_with fail
          refine (implInter_any _ _ _ _ _ _ _ ia ib (by omega) (by omega)).mono ?_
          rintro e w5 ⟨Ax, cx, rfl, ox, b5⟩
          have ia := ia.below b5
          have ib := ib.below b5
          have Bw5 := below_step Bw4 b5
          clear b5 Bw4
          have ix := (IL.of_own ox).1
          clear ox
          go_wp2_with fail
          refine (sameInts_any _ _ _ _ _ _ _ ix ia (bigI _ (by omega))).mono ?_
          rintro e w6 ⟨he, b6⟩
          rw [same_si HA.out HB.out, HS.out] at he
          subst he
          have ia := ia.below b6
          have ib := ib.below b6
          have ix := ix.below b6
          have Bw6 := below_step Bw5 b6
          clear b6 Bw5
          clear ix
          go_wp2_with fail
          refine (sameInts_any _ _ _ _ _ _ _ ia ib (by omega)).mono ?_
          rintro e w7 ⟨he, b7⟩
          rw [same_ss HA.out HB.out, HS.out, Bool.false_and] at he
          subst he
          have ia := ia.below b7
          have ib := ib.below b7
          have Bw7 := below_step Bw6 b7
          clear b7 Bw6
          go_wp2_with fail
          refine (implSubset_any none _ 0 _ [] _ _ (.inl rfl) ia (by decide) (by omega)).mono ?_
          rintro e w' ⟨he, rfl⟩
          rw [subsR_nil HA.out] at he
          subst he
          go_wp2
          go_ret
          exact ⟨rfl, Bw7⟩
    · have HS := Lib.hid hs
      clear hs
      go_wp2_with fail
      refine (implSubset_any _ _ _ _ _ _ _ ia ib (by omega) (by omega)).mono ?_
      rintro e w' ⟨he, rfl⟩
      rw [HS.out] at he
      subst he
      go_wp2_with fail
      refine (specSubset_any _ _ _ _ _ _ _ ia ib (by omega) (by omega)).mono ?_
      rintro e w2 ⟨he, b2⟩
      rw [HS.out] at he
      subst he
      have ia := ia.below b2
      have ib := ib.below b2
      have Bw2 := below_step Bw1 b2
      clear b2 Bw1
      cases hva : vld a
      · have HA := Lib.hid hva
        clear hva
        go_wp2_with fail
        refine (specValid_f _ _ _ _ ia (by omega) HA.out).mono ?_
        rintro e w3 ⟨rfl, b3⟩
        have ia := ia.below b3
        have ib := ib.below b3
        have Bw3 := below_step Bw2 b3
        clear b3 Bw2
        go_wp2_with fail
        refine (specSubset_any _ _ _ _ _ _ _ ia ib (by omega) (by omega)).mono ?_
        rintro e w4 ⟨he, b4⟩
        rw [HS.out] at he
        subst he
        have ia := ia.below b4
        have ib := ib.below b4
        have Bw4 := below_step Bw3 b4
        clear b4 Bw3
        go_wp2
        go_ret
        exact ⟨rfl, Bw4⟩
      · have HA := Lib.hid hva
        clear hva
        go_wp2_with fail
        refine (specValid_t _ _ _ _ ia (by omega) HA.out).mono ?_
        rintro e w3 ⟨rfl, b3⟩
        have ia := ia.below b3
        have ib := ib.below b3
        have Bw3 := below_step Bw2 b3
        clear b3 Bw2
        cases hvb : vld b
        · have HB := Lib.hid hvb
          clear hvb
          go_wp2_with fail
          refine (specValid_f _ _ _ _ ib (by omega) HB.out).mono ?_
          rintro e w4 ⟨rfl, b4⟩
          have ia := ia.below b4
          have ib := ib.below b4
          have Bw4 := below_step Bw3 b4
          clear b4 Bw3
          go_wp2_with fail
          refine (specSubset_any _ _ _ _ _ _ _ ia ib (by omega) (by omega)).mono ?_
          rintro e w5 ⟨he, b5⟩
          rw [HS.out] at he
          subst he
          have ia := ia.below b5
          have ib := ib.below b5
          have Bw5 := below_step Bw4 b5
          clear b5 Bw4
          go_wp2
          go_ret
          exact ⟨rfl, Bw5⟩
        · have HB := Lib.hid hvb
          clear hvb
          go_wp2_with fail
          refine (specValid_t _ _ _ _ ib (by omega) HB.out).mono ?_
          rintro e w4 ⟨rfl, b4⟩
          have ia := ia.below b4
          have ib := ib.below b4
          have Bw4 := below_step Bw3 b4
          clear b4 Bw3
          go_wp2_with fail
          refine (implInter_any _ _ _ _ _ _ _ ia ib (by omega) (by omega)).mono ?_
          rintro e w5 ⟨Ax, cx, rfl, ox, b5⟩
          have ia := ia.below b5
          have ib := ib.below b5
          have Bw5 := below_step Bw4 b5
          clear b5 Bw4
          have ix := (IL.of_own ox).1
          clear ox
          go_wp2_with fail
          refine (sameInts_any _ _ _ _ _ _ _ ix ia (bigI _ (by omega))).mono ?_
          rintro e w6 ⟨he, b6⟩
          rw [same_si HA.out HB.out, HS.out] at he
          subst he
          have ia := ia.below b6
          have ib := ib.below b6
          have ix := ix.below b6
          have Bw6 := below_step Bw5 b6
          clear b6 Bw5
          clear ix
          cases ht : subsR b a
          · have HT := Lib.hid ht
            clear ht
            go_wp2_with fail
            refine (implSubset_any _ _ _ _ _ _ _ ib ia (by omega) (by omega)).mono ?_
            rintro e w' ⟨he, rfl⟩
            rw [HT.out] at he
            subst he
            go_wp2_with fail
            refine (sameInts_any _ _ _ _ _ _ _ ia ib (by omega)).mono ?_
            rintro e w7 ⟨he, b7⟩
            rw [same_ss HA.out HB.out, HS.out, HT.out, Bool.true_and] at he
            subst he
            have ia := ia.below b7
            have ib := ib.below b7
            have Bw7 := below_step Bw6 b7
            clear b7 Bw6
            go_wp2_with fail
            refine (implSubset_any none _ 0 _ [] _ _ (.inl rfl) ia (by decide) (by omega)).mono ?_
            rintro e w' ⟨he, rfl⟩
            rw [subsR_nil HA.out] at he
            subst he
            go_wp2
            go_ret
            exact ⟨rfl, Bw7⟩
          · have HT := Lib.hid ht
            clear ht
            go_wp2_with fail
            refine (implSubset_any _ _ _ _ _ _ _ ib ia (by omega) (by omega)).mono ?_
            rintro e w' ⟨he, rfl⟩
            rw [HT.out] at he
            subst he
            go_wp2_with fail
            refine (sameInts_any _ _ _ _ _ _ _ ia ib (by omega)).mono ?_
            rintro e w7 ⟨he, b7⟩
            rw [same_ss HA.out HB.out, HS.out, HT.out, Bool.true_and] at he
            subst he
            have ia := ia.below b7
            have ib := ib.below b7
            have Bw7 := below_step Bw6 b7
            clear b7 Bw6
            go_wp2_with fail
            refine (implSubset_any none _ 0 _ [] _ _ (.inl rfl) ia (by decide) (by omega)).mono ?_
            rintro e w' ⟨he, rfl⟩
            rw [subsR_nil HA.out] at he
            subst he
            go_wp2
            go_ret
            exact ⟨rfl, Bw7⟩
  · go_enter Try.func8, Try.ntmps8
    unfold maxLen at hm
    go_wp2
    go_ret
    exact ⟨rfl, Below.refl _ _⟩
end Go.Proofs.Ytlbhkeijfcpffaa
