/- The walk of the law on unions: commutative, associative, idempotent. -/
import Derived.Test.YtlbhkeijfcpffaaLaw1
namespace Go.Proofs.Ytlbhkeijfcpffaa
open Go.RowKit

set_option maxHeartbeats 3200000 in
theorem walkUnionLaws (A B : Option Addr) (c d : Nat) (l m : List Int) (w : World) (ha : BL w A l) (hc : l.length ≤ c) (hmc : c ≤ maxLen) (hd : m.length ≤ d) (hmd : d ≤ maxLen) :
    Calls Try.prog 4 #[.slice A l.length c, .slice B m.length d] w fun e w' => e = .returned (.bool true) ∧ Below w.heap.size w w' := by
  have hm : l.length ≤ maxLen := Nat.le_trans hc hmc
  have hmm : m.length ≤ maxLen := Nat.le_trans hd hmd
  by_cases hl : l.length ≤ 1048576 ∧ m.length ≤ 1048576
  · obtain ⟨hl, hl2⟩ := hl
    go_enter Try.func4, Try.ntmps4
    go_wp2_with fail
    refine (drawSetUnion_any _ _ _ _ ha hc hm hmc).mono ?_
    rintro e w1 ⟨a, b, A1, B1, c1, d1, ha7, hb7, rfl, ia, ib, b1⟩
    have hlen : (both union a b).length ≤ 1048576 := bigU a b
    have Bw1 := b1
    clear b1
    go_wp2_with fail
    refine (implUnion_any _ _ _ _ _ _ _ ia ib (by omega) (by omega)).mono ?_
    rintro e w2 ⟨Au, cu, rfl, ou, b2⟩
    have ia := ia.below b2
    have ib := ib.below b2
    have Bw2 := below_step Bw1 b2
    clear b2 Bw1
    have iu := (IL.of_own ou).1
    clear ou
    go_wp2_with fail
    refine (specUnion_any _ _ _ _ _ _ _ ia ib (by omega) (by omega)).mono ?_
    rintro e w3 ⟨As, cs, rfl, os, b3⟩
    have ia := ia.below b3
    have ib := ib.below b3
    have iu := iu.below b3
    have Bw3 := below_step Bw2 b3
    clear b3 Bw2
    have is := (IL.of_own os).1
    clear os
    go_wp2_with fail
    refine (sameInts_yes _ _ _ _ _ _ iu is hlen).mono ?_
    rintro e w4 ⟨rfl, b4⟩
    have ia := ia.below b4
    have ib := ib.below b4
    have iu := iu.below b4
    have is := is.below b4
    have Bw4 := below_step Bw3 b4
    clear b4 Bw3
    clear is
    cases hva : vld a
    · have HA := Lib.hid hva
      clear hva
      go_wp2_with fail
      refine (specValid_f _ _ _ _ ia (by omega) HA.out).mono ?_
      rintro e w5 ⟨rfl, b5⟩
      have ia := ia.below b5
      have ib := ib.below b5
      have iu := iu.below b5
      have Bw5 := below_step Bw4 b5
      clear b5 Bw4
      go_wp2_with fail
      refine (specUnion_any _ _ _ _ _ _ _ ia ib (by omega) (by omega)).mono ?_
      rintro e w6 ⟨As, cs, rfl, os, b6⟩
      have ia := ia.below b6
      have ib := ib.below b6
      have iu := iu.below b6
      have Bw6 := below_step Bw5 b6
      clear b6 Bw5
      have is := (IL.of_own os).1
      clear os
      go_wp2_with fail
      refine (sameInts_yes _ _ _ _ _ _ iu is hlen).mono ?_
      rintro e w7 ⟨rfl, b7⟩
      have ia := ia.below b7
      have ib := ib.below b7
      have iu := iu.below b7
      have is := is.below b7
      have Bw7 := below_step Bw6 b7
      clear b7 Bw6
      go_wp2
      go_ret
      exact ⟨rfl, Bw7⟩
    · have HA := Lib.hid hva
      clear hva
      go_wp2_with fail
      refine (specValid_t _ _ _ _ ia (by omega) HA.out).mono ?_
      rintro e w5 ⟨rfl, b5⟩
      have ia := ia.below b5
      have ib := ib.below b5
      have iu := iu.below b5
      have Bw5 := below_step Bw4 b5
      clear b5 Bw4
      cases hvb : vld b
      · have HB := Lib.hid hvb
        clear hvb
        go_wp2_with fail
        refine (specValid_f _ _ _ _ ib (by omega) HB.out).mono ?_
        rintro e w6 ⟨rfl, b6⟩
        have ia := ia.below b6
        have ib := ib.below b6
        have iu := iu.below b6
        have Bw6 := below_step Bw5 b6
        clear b6 Bw5
        go_wp2_with fail
        refine (specUnion_any _ _ _ _ _ _ _ ia ib (by omega) (by omega)).mono ?_
        rintro e w7 ⟨As, cs, rfl, os, b7⟩
        have ia := ia.below b7
        have ib := ib.below b7
        have iu := iu.below b7
        have Bw7 := below_step Bw6 b7
        clear b7 Bw6
        have is := (IL.of_own os).1
        clear os
        go_wp2_with fail
        refine (sameInts_yes _ _ _ _ _ _ iu is hlen).mono ?_
        rintro e w8 ⟨rfl, b8⟩
        have ia := ia.below b8
        have ib := ib.below b8
        have iu := iu.below b8
        have is := is.below b8
        have Bw8 := below_step Bw7 b8
        clear b8 Bw7
        go_wp2
        go_ret
        exact ⟨rfl, Bw8⟩
      · have HB := Lib.hid hvb
        clear hvb
        go_wp2_with fail
        refine (specValid_t _ _ _ _ ib (by omega) HB.out).mono ?_
        rintro e w6 ⟨rfl, b6⟩
        have ia := ia.below b6
        have ib := ib.below b6
        have iu := iu.below b6
        have Bw6 := below_step Bw5 b6
        clear b6 Bw5
        have HC := Lib.hid (vld_mem (nmask_lt m.length))
        go_wp2_with fail
        refine (setOf_any _ _ hl2).mono ?_
        rintro e w7 ⟨Ac, cc, rfl, oc, b7⟩
        have ia := ia.below b7
        have ib := ib.below b7
        have iu := iu.below b7
        have Bw7 := below_step Bw6 b7
        clear b7 Bw6
        have ic := (IL.of_own oc).1
        clear oc
        go_wp2_with fail
        refine (implUnion_any _ _ _ _ _ _ _ ib ia (by omega) (by omega)).mono ?_
        rintro e w8 ⟨Ax, cx, rfl, ox, b8⟩
        have ia := ia.below b8
        have ib := ib.below b8
        have iu := iu.below b8
        have ic := ic.below b8
        have Bw8 := below_step Bw7 b8
        clear b8 Bw7
        have ix := (IL.of_own ox).1
        clear ox
        go_wp2_with fail
        refine (sameInts_any _ _ _ _ _ _ _ ix iu (bigU _ _)).mono ?_
        rintro e w9 ⟨he, b9⟩
        rw [same_uc HA.out HB.out] at he
        subst he
        have ia := ia.below b9
        have ib := ib.below b9
        have iu := iu.below b9
        have ic := ic.below b9
        have ix := ix.below b9
        have Bw9 := below_step Bw8 b9
        clear b9 Bw8
        clear ix
        go_wp2_with fail
        refine (implUnion_any _ _ _ _ _ _ _ iu ic hlen (bigM _)).mono ?_
        rintro e w10 ⟨Ax, cx, rfl, ox, b10⟩
        have ia := ia.below b10
        have ib := ib.below b10
        have iu := iu.below b10
        have ic := ic.below b10
        have Bw10 := below_step Bw9 b10
        clear b10 Bw9
        have ix := (IL.of_own ox).1
        clear ox
        go_wp2_with fail
        refine (implUnion_any _ _ _ _ _ _ _ ib ic (by omega) (bigM _)).mono ?_
        rintro e w11 ⟨Ay, cy, rfl, oy, b11⟩
        have ia := ia.below b11
        have ib := ib.below b11
        have iu := iu.below b11
        have ic := ic.below b11
        have ix := ix.below b11
        have Bw11 := below_step Bw10 b11
        clear b11 Bw10
        have iy := (IL.of_own oy).1
        clear oy
        go_wp2_with fail
        refine (implUnion_any _ _ _ _ _ _ _ ia iy (by omega) (bigU _ _)).mono ?_
        rintro e w12 ⟨Az, cz, rfl, oz, b12⟩
        have ia := ia.below b12
        have ib := ib.below b12
        have iu := iu.below b12
        have ic := ic.below b12
        have ix := ix.below b12
        have iy := iy.below b12
        have Bw12 := below_step Bw11 b12
        clear b12 Bw11
        have iz := (IL.of_own oz).1
        clear oz
        go_wp2_with fail
        refine (sameInts_any _ _ _ _ _ _ _ ix iz (bigU _ _)).mono ?_
        rintro e w13 ⟨he, b13⟩
        rw [same_ua HA.out HB.out HC.out] at he
        subst he
        have ia := ia.below b13
        have ib := ib.below b13
        have iu := iu.below b13
        have ic := ic.below b13
        have ix := ix.below b13
        have iy := iy.below b13
        have iz := iz.below b13
        have Bw13 := below_step Bw12 b13
        clear b13 Bw12
        clear ix iy iz ic
        go_wp2_with fail
        refine (implUnion_any _ _ _ _ _ _ _ ia ia (by omega) (by omega)).mono ?_
        rintro e w14 ⟨Ax, cx, rfl, ox, b14⟩
        have ia := ia.below b14
        have ib := ib.below b14
        have iu := iu.below b14
        have Bw14 := below_step Bw13 b14
        clear b14 Bw13
        have ix := (IL.of_own ox).1
        clear ox
        go_wp2_with fail
        refine (sameInts_any _ _ _ _ _ _ _ ix ia (bigU _ _)).mono ?_
        rintro e w15 ⟨he, b15⟩
        rw [same_us HA.out] at he
        subst he
        have ia := ia.below b15
        have ib := ib.below b15
        have iu := iu.below b15
        have ix := ix.below b15
        have Bw15 := below_step Bw14 b15
        clear b15 Bw14
        clear ix
        go_wp2_with fail
        refine (implUnion_any _ none _ 0 _ [] _ ia (.inl rfl) (by omega) (by decide)).mono ?_
        rintro e w16 ⟨Ax, cx, rfl, ox, b16⟩
        have ia := ia.below b16
        have ib := ib.below b16
        have iu := iu.below b16
        have Bw16 := below_step Bw15 b16
        clear b16 Bw15
        have ix := (IL.of_own ox).1
        clear ox
        go_wp2_with fail
        refine (sameInts_any _ _ _ _ _ _ _ ix ia (bigU _ _)).mono ?_
        rintro e w17 ⟨he, b17⟩
        rw [same_un HA.out] at he
        subst he
        have ia := ia.below b17
        have ib := ib.below b17
        have iu := iu.below b17
        have ix := ix.below b17
        have Bw17 := below_step Bw16 b17
        clear b17 Bw16
        go_wp2
        go_ret
        exact ⟨rfl, Bw17⟩
  · by_cases hl1 : l.length ≤ 1048576
    · have hl2 : ¬ m.length ≤ 1048576 := fun h => hl ⟨hl1, h⟩
      clear hl
      go_enter Try.func4, Try.ntmps4
      unfold maxLen at hm hmm
      go_wp2
      go_ret
      exact ⟨rfl, Below.refl _ _⟩
    · clear hl
      go_enter Try.func4, Try.ntmps4
      unfold maxLen at hm hmm
      go_wp2
      go_ret
      exact ⟨rfl, Below.refl _ _⟩
end Go.Proofs.Ytlbhkeijfcpffaa
