/- The walk of the law on the sizes of unions. -/
import Derived.Test.YtlggnnndahgbjaaSpecV
import Derived.Test.YtlggnnndahgbjaaImpl
import Derived.Test.YtlggnnndahgbjaaDraw2
namespace Go.Proofs.Ytlggnnndahgbjaa
open Go.RowKit

theorem size_add {a b : List Int} (ha : vld a = true) (hb : vld b = true) : (union a b).length + (inter a b).length = a.length + b.length ∧ mskR (union a b) + mskR (inter a b) = mskR a + mskR b :=
  pair_of (P := fun a b => (union a b).length + (inter a b).length = a.length + b.length ∧ mskR (union a b) + mskR (inter a b) = mskR a + mskR b) (by decide +kernel) ha hb
theorem mskR_bd (l : List Int) : -1 ≤ mskR l ∧ mskR l ≤ 63 := by
  unfold mskR
  split
  · rename_i h; have := msk_lt h; omega
  · omega
theorem vld_union {a b : List Int} (ha : vld a = true) (hb : vld b = true) : vld (union a b) = true := pair_of (P := fun a b => vld (union a b) = true) (by decide +kernel) ha hb
theorem bothU_len (a b : List Int) : (both union a b).length ≤ 6 := both_len (fun a b _ => union_len a b) a b

set_option maxHeartbeats 1600000 in
theorem walkUnionSize (A : Option Addr) (c : Nat) (l : List Int) (w : World) (ha : BL w A l) (hc : l.length ≤ c) (hmc : c ≤ maxLen) :
    Calls Try.prog 4 #[.slice A l.length c] w fun e w' => e = .returned (.bool true) ∧ Below w.heap.size w w' := by
  have hm : l.length ≤ maxLen := Nat.le_trans hc hmc
  by_cases hl : l.length ≤ 1048576
  · go_enter Try.func4, Try.ntmps4
    go_wp2_with fail
    refine (drawSetUnion_any _ _ _ _ ha hc hm hmc).mono ?_
    rintro e w1 ⟨a, b, A1, B1, c1, d1, ha7, hb7, rfl, ia, ib, b1⟩
    have hlen := bothU_len a b
    go_wp2_with fail
    refine (implUnion_any _ _ _ _ _ _ _ ia ib (by omega) (by omega)).mono ?_
    rintro e w2 ⟨AU, cU, rfl, oU, b2⟩
    have ia := ia.below b2
    have ib := ib.below b2
    have iu := (IL.of_own oU).1
    have B2 := below_step b1 b2
    clear oU b1 b2
    go_wp2_with fail
    refine (specUnion_any _ _ _ _ _ _ _ ia ib (by omega) (by omega)).mono ?_
    rintro e w3 ⟨AS, cS, rfl, oS, b3⟩
    have ia := ia.below b3
    have ib := ib.below b3
    have iu := iu.below b3
    have is := (IL.of_own oS).1
    have B3 := below_step B2 b3
    clear oS b3 B2
    go_wp2_with fail
    refine (sameInts_yes _ _ _ _ _ _ iu is (by omega)).mono ?_
    rintro e w4 ⟨rfl, b4⟩
    have ia := ia.below b4
    have ib := ib.below b4
    have iu := iu.below b4
    have B4 := below_step B3 b4
    clear b4 B3 is
    cases hva : vld a
    · have HA := Lib.hid hva
      clear hva
      go_wp2_with fail
      refine (specValid_f _ _ _ _ ia (by omega) HA.out).mono ?_
      rintro e w5 ⟨rfl, b5⟩
      have ia := ia.below b5
      have ib := ib.below b5
      have iu := iu.below b5
      have B5 := below_step B4 b5
      clear b5 B4
      go_wp2_with fail
      refine (specUnion_any _ _ _ _ _ _ _ ia ib (by omega) (by omega)).mono ?_
      rintro e w6 ⟨AT, cT, rfl, oT, b6⟩
      have iu := iu.below b6
      have is := (IL.of_own oT).1
      have B6 := below_step B5 b6
      clear oT b6 B5
      go_wp2_with fail
      refine (sameInts_yes _ _ _ _ _ _ iu is (by omega)).mono ?_
      rintro e w7 ⟨rfl, b7⟩
      have B7 := below_step B6 b7
      clear b7 B6
      go_wp2
      go_ret
      exact ⟨rfl, B7⟩
    · have HA := Lib.hid hva
      clear hva
      go_wp2_with fail
      refine (specValid_t _ _ _ _ ia (by omega) HA.out).mono ?_
      rintro e w5 ⟨rfl, b5⟩
      have ia := ia.below b5
      have ib := ib.below b5
      have iu := iu.below b5
      have B5 := below_step B4 b5
      clear b5 B4
      cases hvb : vld b
      · have HB := Lib.hid hvb
        clear hvb
        go_wp2_with fail
        refine (specValid_f _ _ _ _ ib (by omega) HB.out).mono ?_
        rintro e w6 ⟨rfl, b6⟩
        have ia := ia.below b6
        have ib := ib.below b6
        have iu := iu.below b6
        have B6 := below_step B5 b6
        clear b6 B5
        go_wp2_with fail
        refine (specUnion_any _ _ _ _ _ _ _ ia ib (by omega) (by omega)).mono ?_
        rintro e w7 ⟨AT, cT, rfl, oT, b7⟩
        have iu := iu.below b7
        have is := (IL.of_own oT).1
        have B7 := below_step B6 b7
        clear oT b7 B6
        go_wp2_with fail
        refine (sameInts_yes _ _ _ _ _ _ iu is (by omega)).mono ?_
        rintro e w8 ⟨rfl, b8⟩
        have B8 := below_step B7 b8
        clear b8 B7
        go_wp2
        go_ret
        exact ⟨rfl, B8⟩
      · have HB := Lib.hid hvb
        clear hvb
        go_wp2_with fail
        refine (specValid_t _ _ _ _ ib (by omega) HB.out).mono ?_
        rintro e w6 ⟨rfl, b6⟩
        have ia := ia.below b6
        have ib := ib.below b6
        have iu := iu.below b6
        have B6 := below_step B5 b6
        clear b6 B5
        go_wp2_with fail
        refine (implInter_any _ _ _ _ _ _ _ ia ib (by omega) (by omega)).mono ?_
        rintro e w7 ⟨AI, cI, rfl, oI, b7⟩
        have ia := ia.below b7
        have ib := ib.below b7
        have iu := iu.below b7
        have ii := (IL.of_own oI).1
        have B7 := below_step B6 b7
        have hs := size_add HA.out HB.out
        rw [← both_t (f := union) HA.out HB.out, ← both_t (f := inter) HA.out HB.out] at hs
        obtain ⟨hs1, hs2⟩ := hs
        have hi6 : (both inter a b).length ≤ 14 := by omega
        have m1 := mskR_bd (both union a b)
        have m2 := mskR_bd (both inter a b)
        have m3 := mskR_bd a
        have m4 := mskR_bd b
        obtain ⟨m11, m12⟩ := m1
        obtain ⟨m21, m22⟩ := m2
        obtain ⟨m31, m32⟩ := m3
        obtain ⟨m41, m42⟩ := m4
        have Hs2 := Lib.hid hs2
        have hsb : (((both union a b).length : Int) + ((both inter a b).length : Int) == (a.length : Int) + (b.length : Int)) = true := beq_iff_eq.2 (by omega)
        clear oI b7 B6 hs1 hs2
        go_wp2_with fail
        refine (implMask_any _ _ _ _ iu (by omega)).mono ?_
        rintro e w' ⟨rfl, rfl⟩
        go_wp2_with fail
        refine (implMask_any _ _ _ _ ii (by omega)).mono ?_
        rintro e w' ⟨rfl, rfl⟩
        go_wp2_with fail
        refine (implMask_any _ _ _ _ ia (by omega)).mono ?_
        rintro e w' ⟨rfl, rfl⟩
        go_wp2_with fail
        refine (implMask_any _ _ _ _ ib (by omega)).mono ?_
        rintro e w' ⟨rfl, rfl⟩
        have hmb : (mskR (both union a b) + mskR (both inter a b) == mskR a + mskR b) = true := beq_iff_eq.2 Hs2.out
        go_wp2
        go_ret
        exact ⟨rfl, B7⟩
  · go_enter Try.func4, Try.ntmps4
    unfold maxLen at hm
    go_wp2
    go_ret
    exact ⟨rfl, Below.refl _ _⟩
end Go.Proofs.Ytlggnnndahgbjaa
