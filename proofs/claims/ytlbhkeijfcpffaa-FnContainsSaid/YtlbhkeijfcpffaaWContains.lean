/- The walk of the law that membership agrees with the elements of the slice. -/
import Derived.Test.YtlbhkeijfcpffaaLaw1
namespace Go.Proofs.Ytlbhkeijfcpffaa
open Go.RowKit

set_option maxHeartbeats 3200000 in
theorem walkContains (A : Option Addr) (c : Nat) (l : List Int) (w : World) (ha : BL w A l) (hc : l.length ≤ c) (hmc : c ≤ maxLen) :
    Calls Try.prog 12 #[.slice A l.length c] w fun e w' => e = .returned (.bool true) ∧ Below w.heap.size w w' := by
  have hm : l.length ≤ maxLen := Nat.le_trans hc hmc
  by_cases hl : l.length ≤ 1048576
  · go_enter Try.func12, Try.ntmps12
    go_wp2_with fail
    refine (drawSetContains_any _ _ _ _ ha hc hm hmc).mono ?_
    rintro e w1 ⟨a, A1, d1, x, ha7, x0, x1, rfl, ia, b1⟩
    have Bw1 := b1
    clear b1
    cases hs : hasR a x
    · have HS := Lib.hid hs
      clear hs
      go_wp2_with fail
      refine (implContains_any _ _ _ _ _ ia (by omega)).mono ?_
      rintro e w' ⟨he, rfl⟩
      rw [HS.out] at he
      subst he
      go_wp2_with fail
      refine (specContains_any _ _ _ _ _ ia (by omega)).mono ?_
      rintro e w2 ⟨he, b2⟩
      rw [HS.out] at he
      subst he
      have ia := ia.below b2
      have Bw2 := below_step Bw1 b2
      clear b2 Bw1
      cases hva : vld a
      · have HA := Lib.hid hva
        clear hva
        go_wp2_with fail
        refine (specValid_f _ _ _ _ ia (by omega) HA.out).mono ?_
        rintro e w3 ⟨rfl, b3⟩
        have ia := ia.below b3
        have Bw3 := below_step Bw2 b3
        clear b3 Bw2
        go_wp2_with fail
        refine (specContains_any _ _ _ _ _ ia (by omega)).mono ?_
        rintro e w4 ⟨he, b4⟩
        rw [HS.out] at he
        subst he
        have ia := ia.below b4
        have Bw4 := below_step Bw3 b4
        clear b4 Bw3
        go_wp2
        go_ret
        exact ⟨rfl, Bw4⟩
      · have HA := Lib.hid hva
        clear hva
        go_wp2_with fail
        refine (specValid_t _ _ _ _ ia (by omega) HA.out).mono ?_
        rintro e w3 ⟨rfl, b3⟩
        have ia := ia.below b3
        have Bw3 := below_step Bw2 b3
        clear b3 Bw2
        go_wp2
        go_loopw [6, 7] (fun n i wr => ∃ k : Nat, k ≤ a.length ∧ n = .int .i64 (cnt a x k : Nat) ∧ i = .int .i64 k ∧ Below w3.heap.size w3 wr) (fun _ i _ => a.length - (intOf i).toNat)
        (case atStart => exact ⟨0, by omega, by rw [cnt_zero]; rfl, rfl, Below.refl _ _⟩)
        obtain ⟨k, hk, rfl, rfl, hbel⟩ := hrel
        have hcl := cnt_le a x k
        by_cases hlt : k < a.length
        · obtain ⟨b, off, y, rfl, hy, hcell⟩ := (ia.below hbel).at_ hlt
          have hki : (0 : Int) ≤ (k : Int) := by omega
          have hki2 : (k : Int) < (a.length : Int) := by omega
          cases hxy : (y == x)
          · have HN := Lib.hid (cnt_no hy hxy)
            clear hy
            go_wp2
            go_roundw
            (case rel => exact ⟨k + 1, by omega, by rw [HN.out], by go_num, hbel⟩)
            (case measure => simp [intOf]; omega)
          · have HN := Lib.hid (cnt_yes hy hxy)
            clear hy
            go_wp2
            go_roundw
            (case rel => exact ⟨k + 1, by omega, by rw [HN.out]; go_num, by go_num, hbel⟩)
            (case measure => simp [intOf]; omega)
        · obtain rfl : k = a.length := by omega
          obtain ⟨hc1, hc2⟩ := cnt_all HA.out x
          have hn1 : (((cnt a x a.length : Nat) : Int) == 1) = false := by rw [← hc2]; have h := HS.out; simpa [hasR, HA.out] using h
          have hle : ((cnt a x a.length : Nat) : Int) ≤ 1 := by omega
          have hle1 : decide (((cnt a x a.length : Nat) : Int) ≤ 1) = true := decide_eq_true hle
          clear hc2
          go_wp2
          go_ret
          exact ⟨rfl, below_step Bw3 hbel⟩
    · have HS := Lib.hid hs
      clear hs
      go_wp2_with fail
      refine (implContains_any _ _ _ _ _ ia (by omega)).mono ?_
      rintro e w' ⟨he, rfl⟩
      rw [HS.out] at he
      subst he
      go_wp2_with fail
      refine (specContains_any _ _ _ _ _ ia (by omega)).mono ?_
      rintro e w2 ⟨he, b2⟩
      rw [HS.out] at he
      subst he
      have ia := ia.below b2
      have Bw2 := below_step Bw1 b2
      clear b2 Bw1
      cases hva : vld a
      · have HA := Lib.hid hva
        clear hva
        go_wp2_with fail
        refine (specValid_f _ _ _ _ ia (by omega) HA.out).mono ?_
        rintro e w3 ⟨rfl, b3⟩
        have ia := ia.below b3
        have Bw3 := below_step Bw2 b3
        clear b3 Bw2
        go_wp2_with fail
        refine (specContains_any _ _ _ _ _ ia (by omega)).mono ?_
        rintro e w4 ⟨he, b4⟩
        rw [HS.out] at he
        subst he
        have ia := ia.below b4
        have Bw4 := below_step Bw3 b4
        clear b4 Bw3
        go_wp2
        go_ret
        exact ⟨rfl, Bw4⟩
      · have HA := Lib.hid hva
        clear hva
        go_wp2_with fail
        refine (specValid_t _ _ _ _ ia (by omega) HA.out).mono ?_
        rintro e w3 ⟨rfl, b3⟩
        have ia := ia.below b3
        have Bw3 := below_step Bw2 b3
        clear b3 Bw2
        go_wp2
        go_loopw [6, 7] (fun n i wr => ∃ k : Nat, k ≤ a.length ∧ n = .int .i64 (cnt a x k : Nat) ∧ i = .int .i64 k ∧ Below w3.heap.size w3 wr) (fun _ i _ => a.length - (intOf i).toNat)
        (case atStart => exact ⟨0, by omega, by rw [cnt_zero]; rfl, rfl, Below.refl _ _⟩)
        obtain ⟨k, hk, rfl, rfl, hbel⟩ := hrel
        have hcl := cnt_le a x k
        by_cases hlt : k < a.length
        · obtain ⟨b, off, y, rfl, hy, hcell⟩ := (ia.below hbel).at_ hlt
          have hki : (0 : Int) ≤ (k : Int) := by omega
          have hki2 : (k : Int) < (a.length : Int) := by omega
          cases hxy : (y == x)
          · have HN := Lib.hid (cnt_no hy hxy)
            clear hy
            go_wp2
            go_roundw
            (case rel => exact ⟨k + 1, by omega, by rw [HN.out], by go_num, hbel⟩)
            (case measure => simp [intOf]; omega)
          · have HN := Lib.hid (cnt_yes hy hxy)
            clear hy
            go_wp2
            go_roundw
            (case rel => exact ⟨k + 1, by omega, by rw [HN.out]; go_num, by go_num, hbel⟩)
            (case measure => simp [intOf]; omega)
        · obtain rfl : k = a.length := by omega
          obtain ⟨hc1, hc2⟩ := cnt_all HA.out x
          have hn1 : (((cnt a x a.length : Nat) : Int) == 1) = true := by rw [← hc2]; have h := HS.out; simpa [hasR, HA.out] using h
          have hle : ((cnt a x a.length : Nat) : Int) ≤ 1 := by omega
          have hle1 : decide (((cnt a x a.length : Nat) : Int) ≤ 1) = true := decide_eq_true hle
          clear hc2
          go_wp2
          go_ret
          exact ⟨rfl, below_step Bw3 hbel⟩
  · go_enter Try.func12, Try.ntmps12
    unfold maxLen at hm
    go_wp2
    go_ret
    exact ⟨rfl, Below.refl _ _⟩
end Go.Proofs.Ytlbhkeijfcpffaa
