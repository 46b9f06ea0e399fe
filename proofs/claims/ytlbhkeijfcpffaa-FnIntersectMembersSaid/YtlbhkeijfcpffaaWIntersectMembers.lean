/- The walk of the law on the members of an intersection. -/
import Derived.Test.YtlbhkeijfcpffaaLaw1
namespace Go.Proofs.Ytlbhkeijfcpffaa
open Go.RowKit

set_option maxHeartbeats 3200000 in
theorem walkIntersectMembers (A : Option Addr) (c : Nat) (l : List Int) (w : World) (ha : BL w A l) (hc : l.length ≤ c) (hmc : c ≤ maxLen) :
    Calls Try.prog 5 #[.slice A l.length c] w fun e w' => e = .returned (.bool true) ∧ Below w.heap.size w w' := by
  have hm : l.length ≤ maxLen := Nat.le_trans hc hmc
  by_cases hl : l.length ≤ 1048576
  · go_enter Try.func5, Try.ntmps5
    go_wp2_with fail
    refine (drawSetIntersect_any _ _ _ _ ha hc hm hmc).mono ?_
    rintro e w1 ⟨a, b, A1, B1, c1, d1, ha7, hb7, rfl, ia, ib, b1⟩
    have hlen : (both inter a b).length ≤ 1048576 := bigI b (by omega)
    have Bw1 := b1
    clear b1
    go_wp2_with fail
    refine (implInter_any _ _ _ _ _ _ _ ia ib (by omega) (by omega)).mono ?_
    rintro e w2 ⟨Au, cu, rfl, ou, b2⟩
    have ia := ia.below b2
    have ib := ib.below b2
    have Bw2 := below_step Bw1 b2
    clear b2 Bw1
    have iu := (IL.of_own ou).1
    clear ou
    go_wp2_with fail
    refine (specInter_any _ _ _ _ _ _ _ ia ib (by omega) (by omega)).mono ?_
    rintro e w3 ⟨As, cs, rfl, os, b3⟩
    have ia := ia.below b3
    have ib := ib.below b3
    have iu := iu.below b3
    have Bw3 := below_step Bw2 b3
    clear b3 Bw2
    have is := (IL.of_own os).1
    clear os
    go_wp2_with fail
    refine (sameInts_yes _ _ _ _ _ _ iu is hlen).mono ?_
    rintro e w4 ⟨rfl, b4⟩
    have ia := ia.below b4
    have ib := ib.below b4
    have iu := iu.below b4
    have is := is.below b4
    have Bw4 := below_step Bw3 b4
    clear b4 Bw3
    clear is
    cases hva : vld a
    · have HA := Lib.hid hva
      clear hva
      go_wp2_with fail
      refine (specValid_f _ _ _ _ ia (by omega) HA.out).mono ?_
      rintro e w5 ⟨rfl, b5⟩
      have ia := ia.below b5
      have ib := ib.below b5
      have iu := iu.below b5
      have Bw5 := below_step Bw4 b5
      clear b5 Bw4
      go_wp2_with fail
      refine (specInter_any _ _ _ _ _ _ _ ia ib (by omega) (by omega)).mono ?_
      rintro e w6 ⟨As, cs, rfl, os, b6⟩
      have ia := ia.below b6
      have ib := ib.below b6
      have iu := iu.below b6
      have Bw6 := below_step Bw5 b6
      clear b6 Bw5
      have is := (IL.of_own os).1
      clear os
      go_wp2_with fail
      refine (sameInts_yes _ _ _ _ _ _ iu is hlen).mono ?_
      rintro e w7 ⟨rfl, b7⟩
      have ia := ia.below b7
      have ib := ib.below b7
      have iu := iu.below b7
      have is := is.below b7
      have Bw7 := below_step Bw6 b7
      clear b7 Bw6
      go_wp2
      go_ret
      exact ⟨rfl, Bw7⟩
    · have HA := Lib.hid hva
      clear hva
      go_wp2_with fail
      refine (specValid_t _ _ _ _ ia (by omega) HA.out).mono ?_
      rintro e w5 ⟨rfl, b5⟩
      have ia := ia.below b5
      have ib := ib.below b5
      have iu := iu.below b5
      have Bw5 := below_step Bw4 b5
      clear b5 Bw4
      cases hvb : vld b
      · have HB := Lib.hid hvb
        clear hvb
        go_wp2_with fail
        refine (specValid_f _ _ _ _ ib (by omega) HB.out).mono ?_
        rintro e w6 ⟨rfl, b6⟩
        have ia := ia.below b6
        have ib := ib.below b6
        have iu := iu.below b6
        have Bw6 := below_step Bw5 b6
        clear b6 Bw5
        go_wp2_with fail
        refine (specInter_any _ _ _ _ _ _ _ ia ib (by omega) (by omega)).mono ?_
        rintro e w7 ⟨As, cs, rfl, os, b7⟩
        have ia := ia.below b7
        have ib := ib.below b7
        have iu := iu.below b7
        have Bw7 := below_step Bw6 b7
        clear b7 Bw6
        have is := (IL.of_own os).1
        clear os
        go_wp2_with fail
        refine (sameInts_yes _ _ _ _ _ _ iu is hlen).mono ?_
        rintro e w8 ⟨rfl, b8⟩
        have ia := ia.below b8
        have ib := ib.below b8
        have iu := iu.below b8
        have is := is.below b8
        have Bw8 := below_step Bw7 b8
        clear b8 Bw7
        go_wp2
        go_ret
        exact ⟨rfl, Bw8⟩
      · have HB := Lib.hid hvb
        clear hvb
        go_wp2_with fail
        refine (specValid_t _ _ _ _ ib (by omega) HB.out).mono ?_
        rintro e w6 ⟨rfl, b6⟩
        have ia := ia.below b6
        have ib := ib.below b6
        have iu := iu.below b6
        have Bw6 := below_step Bw5 b6
        clear b6 Bw5
        go_wp2
        go_loopw [6] (fun i wr => ∃ k : Nat, 0 ≤ k ∧ k ≤ 8 ∧ i = .int .i64 k ∧ wr = w6) (fun i _ => 8 - (intOf i).toNat)
        (case atStart => exact ⟨0, by omega, by omega, rfl, rfl⟩)
        obtain ⟨k, hk0, hk, rfl, rfl⟩ := hrel
        by_cases hlt : k ≤ 7
        · have hki : (0 : Int) ≤ (k : Int) := by omega
          have hki2 : (k : Int) ≤ 7 := by omega
          have HF := Lib.hid (hasR_in HA.out HB.out (k : Int))
          cases h1 : hasR a (k : Int)
          · have H1 := Lib.hid h1
            clear h1
            cases h2 : hasR b (k : Int)
            · have H2 := Lib.hid h2
              clear h2
              have HU := Lib.hid (show hasR (both inter a b) (k : Int) = false by rw [HF.out, H1.out, H2.out]; rfl)
              go_wp2_with fail
              refine (implContains_any _ _ _ _ _ iu hlen).mono ?_
              rintro e w' ⟨he, rfl⟩
              rw [HU.out] at he
              subst he
              go_wp2_with fail
              refine (implContains_any _ _ _ _ _ ia (by omega)).mono ?_
              rintro e w' ⟨he, rfl⟩
              rw [H1.out] at he
              subst he
              go_wp2
              go_roundw
              (case rel => exact ⟨k + 1, by omega, by omega, by go_num, trivial⟩)
              (case measure => simp [intOf]; omega)
            · have H2 := Lib.hid h2
              clear h2
              have HU := Lib.hid (show hasR (both inter a b) (k : Int) = false by rw [HF.out, H1.out, H2.out]; rfl)
              go_wp2_with fail
              refine (implContains_any _ _ _ _ _ iu hlen).mono ?_
              rintro e w' ⟨he, rfl⟩
              rw [HU.out] at he
              subst he
              go_wp2_with fail
              refine (implContains_any _ _ _ _ _ ia (by omega)).mono ?_
              rintro e w' ⟨he, rfl⟩
              rw [H1.out] at he
              subst he
              go_wp2
              go_roundw
              (case rel => exact ⟨k + 1, by omega, by omega, by go_num, trivial⟩)
              (case measure => simp [intOf]; omega)
          · have H1 := Lib.hid h1
            clear h1
            cases h2 : hasR b (k : Int)
            · have H2 := Lib.hid h2
              clear h2
              have HU := Lib.hid (show hasR (both inter a b) (k : Int) = false by rw [HF.out, H1.out, H2.out]; rfl)
              go_wp2_with fail
              refine (implContains_any _ _ _ _ _ iu hlen).mono ?_
              rintro e w' ⟨he, rfl⟩
              rw [HU.out] at he
              subst he
              go_wp2_with fail
              refine (implContains_any _ _ _ _ _ ia (by omega)).mono ?_
              rintro e w' ⟨he, rfl⟩
              rw [H1.out] at he
              subst he
              go_wp2_with fail
              refine (implContains_any _ _ _ _ _ ib (by omega)).mono ?_
              rintro e w' ⟨he, rfl⟩
              rw [H2.out] at he
              subst he
              go_wp2
              go_roundw
              (case rel => exact ⟨k + 1, by omega, by omega, by go_num, trivial⟩)
              (case measure => simp [intOf]; omega)
            · have H2 := Lib.hid h2
              clear h2
              have HU := Lib.hid (show hasR (both inter a b) (k : Int) = true by rw [HF.out, H1.out, H2.out]; rfl)
              go_wp2_with fail
              refine (implContains_any _ _ _ _ _ iu hlen).mono ?_
              rintro e w' ⟨he, rfl⟩
              rw [HU.out] at he
              subst he
              go_wp2_with fail
              refine (implContains_any _ _ _ _ _ ia (by omega)).mono ?_
              rintro e w' ⟨he, rfl⟩
              rw [H1.out] at he
              subst he
              go_wp2_with fail
              refine (implContains_any _ _ _ _ _ ib (by omega)).mono ?_
              rintro e w' ⟨he, rfl⟩
              rw [H2.out] at he
              subst he
              go_wp2
              go_roundw
              (case rel => exact ⟨k + 1, by omega, by omega, by go_num, trivial⟩)
              (case measure => simp [intOf]; omega)
        · go_wp2_with fail
          refine (implValid_any _ _ _ _ iu hlen).mono ?_
          rintro e w' ⟨he, rfl⟩
          rw [bv_in HA.out HB.out] at he
          subst he
          go_wp2_with fail
          refine (implInter_any _ _ _ _ _ _ _ ib ia (by omega) (by omega)).mono ?_
          rintro e w7 ⟨Ax, cx, rfl, ox, b7⟩
          have ia := ia.below b7
          have ib := ib.below b7
          have iu := iu.below b7
          have Bw7 := below_step Bw6 b7
          clear b7 Bw6
          have ix := (IL.of_own ox).1
          clear ox
          go_wp2_with fail
          refine (sameInts_any _ _ _ _ _ _ _ ix iu (bigI _ (by omega))).mono ?_
          rintro e w8 ⟨he, b8⟩
          rw [same_ic HA.out HB.out] at he
          subst he
          have ia := ia.below b8
          have ib := ib.below b8
          have iu := iu.below b8
          have ix := ix.below b8
          have Bw8 := below_step Bw7 b8
          clear b8 Bw7
          go_wp2
          go_ret
          exact ⟨rfl, Bw8⟩
  · go_enter Try.func5, Try.ntmps5
    unfold maxLen at hm
    go_wp2
    go_ret
    exact ⟨rfl, Below.refl _ _⟩
end Go.Proofs.Ytlbhkeijfcpffaa
