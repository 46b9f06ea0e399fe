/- The walk of the law that inclusion is transitive. -/
import Derived.Test.YtlbhkeijfcpffaaLaw1
namespace Go.Proofs.Ytlbhkeijfcpffaa
open Go.RowKit

set_option maxHeartbeats 3200000 in
theorem walkSubsetTrans (A B : Option Addr) (c d : Nat) (l m : List Int) (w : World) (ha : BL w A l) (hc : l.length ≤ c) (hmc : c ≤ maxLen) (hd : m.length ≤ d) (hmd : d ≤ maxLen) :
    Calls Try.prog 9 #[.slice A l.length c, .slice B m.length d] w fun e w' => e = .returned (.bool true) ∧ Below w.heap.size w w' := by
  have hm : l.length ≤ maxLen := Nat.le_trans hc hmc
  have hmm : m.length ≤ maxLen := Nat.le_trans hd hmd
  by_cases hl : l.length ≤ 1048576 ∧ m.length ≤ 1048576
  · obtain ⟨hl, hl2⟩ := hl
    go_enter Try.func9, Try.ntmps9
    go_wp2_with fail
    refine (drawSetSubset_any _ _ _ _ ha hc hm hmc).mono ?_
    rintro e w1 ⟨a, b, A1, B1, c1, d1, ha7, hb7, rfl, ia, ib, b1⟩
    have Bw1 := b1
    clear b1
    cases hs : subsR a b
    · have HS := Lib.hid hs
      clear hs
      go_wp2_with fail
      refine (implSubset_any _ _ _ _ _ _ _ ia ib (by omega) (by omega)).mono ?_
      rintro e w' ⟨he, rfl⟩
      rw [HS.out] at he
      subst he
      go_wp2_with fail
      refine (specSubset_any _ _ _ _ _ _ _ ia ib (by omega) (by omega)).mono ?_
      rintro e w2 ⟨he, b2⟩
      rw [HS.out] at he
      subst he
      have ia := ia.below b2
      have ib := ib.below b2
      have Bw2 := below_step Bw1 b2
      clear b2 Bw1
      go_wp2_with fail
      refine (specSubset_any _ _ _ _ _ _ _ ia ib (by omega) (by omega)).mono ?_
      rintro e w3 ⟨he, b3⟩
      rw [HS.out] at he
      subst he
      have ia := ia.below b3
      have ib := ib.below b3
      have Bw3 := below_step Bw2 b3
      clear b3 Bw2
      go_wp2
      go_ret
      exact ⟨rfl, Bw3⟩
    · have HS := Lib.hid hs
      clear hs
      go_wp2_with fail
      refine (implSubset_any _ _ _ _ _ _ _ ia ib (by omega) (by omega)).mono ?_
      rintro e w' ⟨he, rfl⟩
      rw [HS.out] at he
      subst he
      go_wp2_with fail
      refine (specSubset_any _ _ _ _ _ _ _ ia ib (by omega) (by omega)).mono ?_
      rintro e w2 ⟨he, b2⟩
      rw [HS.out] at he
      subst he
      have ia := ia.below b2
      have ib := ib.below b2
      have Bw2 := below_step Bw1 b2
      clear b2 Bw1
      go_wp2_with fail
      refine (setOf_any _ _ hl2).mono ?_
      rintro e w3 ⟨Ac, cc, rfl, oc, b3⟩
      have ia := ia.below b3
      have ib := ib.below b3
      have Bw3 := below_step Bw2 b3
      clear b3 Bw2
      have ic := (IL.of_own oc).1
      clear oc
      cases ht : subsR b (mem (nmask m.length))
      · have HT := Lib.hid ht
        clear ht
        go_wp2_with fail
        refine (implSubset_any _ _ _ _ _ _ _ ib ic (by omega) (bigM _)).mono ?_
        rintro e w' ⟨he, rfl⟩
        rw [HT.out] at he
        subst he
        go_wp2
        go_ret
        exact ⟨rfl, Bw3⟩
      · have HT := Lib.hid ht
        clear ht
        go_wp2_with fail
        refine (implSubset_any _ _ _ _ _ _ _ ib ic (by omega) (bigM _)).mono ?_
        rintro e w' ⟨he, rfl⟩
        rw [HT.out] at he
        subst he
        go_wp2_with fail
        refine (implSubset_any _ _ _ _ _ _ _ ia ic (by omega) (bigM _)).mono ?_
        rintro e w' ⟨he, rfl⟩
        rw [subsR_trans HS.out HT.out] at he
        subst he
        go_wp2
        go_ret
        exact ⟨rfl, Bw3⟩
  · by_cases hl1 : l.length ≤ 1048576
    · have hl2 : ¬ m.length ≤ 1048576 := fun h => hl ⟨hl1, h⟩
      clear hl
      go_enter Try.func9, Try.ntmps9
      unfold maxLen at hm hmm
      go_wp2
      go_ret
      exact ⟨rfl, Below.refl _ _⟩
    · clear hl
      go_enter Try.func9, Try.ntmps9
      unfold maxLen at hm hmm
      go_wp2
      go_ret
      exact ⟨rfl, Below.refl _ _⟩
end Go.Proofs.Ytlbhkeijfcpffaa
