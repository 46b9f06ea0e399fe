/- The walk of the law that every mask of existing members is a set. -/
import Derived.Test.YtlbhkeijfcpffaaLaw1
namespace Go.Proofs.Ytlbhkeijfcpffaa
open Go.RowKit

set_option maxHeartbeats 3200000 in
theorem walkMaskValues (A : Option Addr) (c : Nat) (l : List Int) (w : World) (ha : BL w A l) (hc : l.length ≤ c) (hmc : c ≤ maxLen) :
    Calls Try.prog 11 #[.slice A l.length c] w fun e w' => e = .returned (.bool true) ∧ Below w.heap.size w w' := by
  have hm : l.length ≤ maxLen := Nat.le_trans hc hmc
  by_cases hl : l.length ≤ 1048576
  · go_enter Try.func11, Try.ntmps11
    go_wp2_with fail
    refine (drawSetOfMask_any _ _ _ _ ha hc hm hmc).mono ?_
    rintro e w1 ⟨⟨x, x0, x1, rfl⟩, b1⟩
    have Bw1 := b1
    clear b1
    have hbig : (memR x).length ≤ 1048576 := by have := memR_len x; omega
    by_cases h0 : 0 ≤ x
    · have hd0 : decide (0 ≤ x) = true := decide_eq_true h0
      by_cases h1 : x < 64
      · have hd1 : decide (x < 64) = true := decide_eq_true h1
        have HK := Lib.hid ((mskR_memR h0 h1).2.2)
        have HX := Lib.hid (mskR_memR h0 h1)
        go_wp2_with fail
        refine (specOfMask_any _ _).mono ?_
        rw [HK.out]
        rintro e w2 ⟨As, cs, rfl, os, b2⟩
        have Bw2 := below_step Bw1 b2
        clear b2 Bw1
        have is := (IL.of_own os).1
        clear os
        go_wp2_with fail
        refine (implOfMask_any _ _).mono ?_
        rw [HK.out]
        rintro e w3 ⟨Au, cu, rfl, ou, b3⟩
        have is := is.below b3
        have Bw3 := below_step Bw2 b3
        clear b3 Bw2
        have iu := (IL.of_own ou).1
        clear ou
        go_wp2_with fail
        refine (sameInts_yes _ _ _ _ _ _ iu is hbig).mono ?_
        rintro e w4 ⟨rfl, b4⟩
        have is := is.below b4
        have iu := iu.below b4
        have Bw4 := below_step Bw3 b4
        clear b4 Bw3
        clear is
        go_wp2_with fail
        refine (implMask_any _ _ _ _ iu hbig).mono ?_
        rintro e w' ⟨he, rfl⟩
        rw [HX.out.1] at he
        subst he
        go_wp2_with fail
        refine (implValid_any _ _ _ _ iu hbig).mono ?_
        rintro e w' ⟨he, rfl⟩
        rw [HX.out.2.1] at he
        subst he
        go_wp2
        go_ret
        exact ⟨rfl, Bw4⟩
      · have hd1 : decide (x < 64) = false := decide_eq_false h1
        have HK := Lib.hid (memOk_f (m := x) (by omega))
        go_wp2_with fail
        refine (specOfMask_any _ _).mono ?_
        rw [HK.out]
        rintro e w2 ⟨As, cs, rfl, os, b2⟩
        have Bw2 := below_step Bw1 b2
        clear b2 Bw1
        have is := (IL.of_own os).1
        clear os
        go_wp2_with fail
        refine (implOfMask_any _ _).mono ?_
        rw [HK.out]
        rintro e w3 ⟨Au, cu, rfl, ou, b3⟩
        have is := is.below b3
        have Bw3 := below_step Bw2 b3
        clear b3 Bw2
        have iu := (IL.of_own ou).1
        clear ou
        go_wp2_with fail
        refine (sameInts_yes _ _ _ _ _ _ iu is hbig).mono ?_
        rintro e w4 ⟨rfl, b4⟩
        have is := is.below b4
        have iu := iu.below b4
        have Bw4 := below_step Bw3 b4
        clear b4 Bw3
        clear is
        go_wp2
        go_ret
        exact ⟨rfl, Bw4⟩
    · have hd0 : decide (0 ≤ x) = false := decide_eq_false h0
      have HK := Lib.hid (memOk_f (m := x) (by omega))
      go_wp2_with fail
      refine (specOfMask_any _ _).mono ?_
      rw [HK.out]
      rintro e w2 ⟨As, cs, rfl, os, b2⟩
      have Bw2 := below_step Bw1 b2
      clear b2 Bw1
      have is := (IL.of_own os).1
      clear os
      go_wp2_with fail
      refine (implOfMask_any _ _).mono ?_
      rw [HK.out]
      rintro e w3 ⟨Au, cu, rfl, ou, b3⟩
      have is := is.below b3
      have Bw3 := below_step Bw2 b3
      clear b3 Bw2
      have iu := (IL.of_own ou).1
      clear ou
      go_wp2_with fail
      refine (sameInts_yes _ _ _ _ _ _ iu is hbig).mono ?_
      rintro e w4 ⟨rfl, b4⟩
      have is := is.below b4
      have iu := iu.below b4
      have Bw4 := below_step Bw3 b4
      clear b4 Bw3
      clear is
      go_wp2
      go_ret
      exact ⟨rfl, Bw4⟩
  · go_enter Try.func11, Try.ntmps11
    unfold maxLen at hm
    go_wp2
    go_ret
    exact ⟨rfl, Below.refl _ _⟩
end Go.Proofs.Ytlbhkeijfcpffaa
