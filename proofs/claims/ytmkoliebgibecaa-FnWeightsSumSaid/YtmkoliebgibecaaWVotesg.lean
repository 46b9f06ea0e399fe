/- The walk of the law that votes of disjoint sets add up. -/
import Derived.Test.YtmkoliebgibecaaWLawsg
namespace Go.Proofs.Ytmkoliebgibecaa
open Go.RowKit

set_option maxRecDepth 100000 in
set_option maxHeartbeats 3200000 in
theorem walkVotes (A B : Option Addr) (c d : Nat) (l m : List Int) (w : World) (ha : BL w A l) (hc : l.length ≤ c) (hmc : c ≤ maxLen) (hd : m.length ≤ d) (hmd : d ≤ maxLen) :
    Calls Try.prog 5 #[.slice A l.length c, .slice B m.length d] w fun e w' => e = .returned (.bool true) ∧ Below w.heap.size w w' := by
  have hm := Nat.le_trans hc hmc
  have hmm := Nat.le_trans hd hmd
  have hm1 := hm
  have hm2 := hmm
  unfold maxLen at hm1 hm2
  by_cases hl : l.length ≤ 1048576
  · by_cases hl2 : m.length ≤ 1048576
    · obtain ⟨ml, hml⟩ : ∃ ml, ml = m.length := ⟨_, rfl⟩
      rw [← hml] at hl2 hm2 ⊢
      clear hml hmm hd hmd
      go_enter Try.func5, Try.ntmps5
      go_wp2_with fail
      refine (drawWSum_any _ _ _ _ ha hc hm hmc).mono ?_
      rintro e w1 ⟨v, s, A1, D1, c1, d1, hv7, hs7, rfl, i1, t1, B1⟩
      clear ha hm hc hmc
      have hvl : v.length ≤ 1048576 := by omega
      have hsl : s.length ≤ 1048576 := by omega
      go_wp2_with fail
      refine (implWSum_any _ _ _ _ _ _ _ i1 t1 hvl hsl).mono ?_
      rintro e w2 ⟨rfl, b2⟩
      have i2 := i1.below b2
      have t2 := t1.below b2
      have B2 := below_step B1 b2
      clear i1 t1 B1 b2
      go_wp2_with fail
      refine (specWSum_any _ _ _ _ _ _ _ i2 t2 hvl hsl).mono ?_
      rintro e w3 ⟨rfl, b3⟩
      have i3 := i2.below b3
      have t3 := t2.below b3
      have B3 := below_step B2 b3
      clear i2 t2 B2 b3
      have hr := sumR_rng v s
      generalize hnd : sumR v s = n at *
      have HN := Lib.hid hnd
      clear hnd
      by_cases hn0 : n < 0
      · go_wp2_with fail
        refine (specWSum_any _ _ _ _ _ _ _ i3 t3 hvl hsl).mono ?_
        rw [HN.out]
        rintro e w4 ⟨rfl, b4⟩
        have B4 := below_step B3 b4
        clear i3 t3 B3 b4
        go_wp2
        go_ret
        exact ⟨rfl, B4⟩
      · have hn64 : nmk ml < 64 := nmk_lt ml
        have hml := mem_len (nmk ml)
        obtain ⟨t, ht⟩ : ∃ t, t = mem (nmk ml) := ⟨_, rfl⟩
        have hvt : vld t = true := by rw [ht]; exact vld_mem hn64
        have htl : t.length ≤ 1048576 := by rw [ht]; omega
        have HS := Lib.hid (setO_any ml)
        rw [← ht] at HS
        have HT := Lib.hid (sumR_two (v := v) (s := s) (t := t) (by rw [HN.out]; omega) hvt)
        rw [HN.out] at HT
        have hu := bigU s t
        have hi := bigI t hsl
        have r1 := sumR_rng v (both union s t)
        have r2 := sumR_rng v (both inter s t)
        have r3 := sumR_rng v t
        clear ht hvt
        go_wp2_with fail
        refine (HS.out _ hl2).mono ?_
        rintro e w4 ⟨A4, c4, rfl, o4, b4⟩
        have i4 := i3.below b4
        have t4 := t3.below b4
        have j4 := (IL.of_own o4).1
        have B4 := below_step B3 b4
        clear i3 t3 B3 b4 o4 HS
        go_wp2_with fail
        refine (implUnion_any _ _ _ _ _ _ _ t4 j4 hsl htl).mono ?_
        rintro e w5 ⟨A5, c5, rfl, o5, b5⟩
        have i5 := i4.below b5
        have t5 := t4.below b5
        have j5 := j4.below b5
        have u5 := (IL.of_own o5).1
        have B5 := below_step B4 b5
        clear i4 t4 j4 B4 b5 o5
        go_wp2_with fail
        refine (implWSum_any _ _ _ _ _ _ _ i5 u5 hvl hu).mono ?_
        rintro e w6 ⟨rfl, b6⟩
        have i6 := i5.below b6
        have t6 := t5.below b6
        have j6 := j5.below b6
        have B6 := below_step B5 b6
        clear i5 t5 j5 u5 B5 b6
        go_wp2_with fail
        refine (implInter_any _ _ _ _ _ _ _ t6 j6 hsl htl).mono ?_
        rintro e w7 ⟨A7, c7, rfl, o7, b7⟩
        have i7 := i6.below b7
        have j7 := j6.below b7
        have u7 := (IL.of_own o7).1
        have B7 := below_step B6 b7
        clear i6 t6 j6 B6 b7 o7
        go_wp2_with fail
        refine (implWSum_any _ _ _ _ _ _ _ i7 u7 hvl hi).mono ?_
        rintro e w8 ⟨rfl, b8⟩
        have i8 := i7.below b8
        have j8 := j7.below b8
        have B8 := below_step B7 b8
        clear i7 j7 u7 B7 b8
        go_wp2_with fail
        refine (implWSum_any _ _ _ _ _ _ _ i8 j8 hvl htl).mono ?_
        rintro e w9 ⟨rfl, b9⟩
        have i9 := i8.below b9
        have B9 := below_step B8 b9
        clear i8 j8 B8 b9
        generalize sumR v (both union s t) = x1 at *
        generalize sumR v (both inter s t) = x2 at *
        generalize sumR v t = x3 at *
        obtain ⟨y1, y2, y3⟩ := HT.out
        have HZ := Lib.hid y2
        have he : (x1 + x2 == n + x3) = true := by rw [y1]; simp
        clear HT y1 y2
        have HW := Lib.hid (implWSum_any A1 none c1 0 v [] w9 i9 (.inl rfl) hvl (by simp))
        rw [HZ.out] at HW
        go_wp2_with fail
        refine HW.out.mono ?_
        rintro e w10 ⟨rfl, b10⟩
        have B10 := below_step B9 b10
        clear HW B9 b10 i9
        go_wp2
        go_ret
        exact ⟨rfl, B10⟩
    · go_enter Try.func5, Try.ntmps5
      go_wp2_with fail
      go_ret
      exact ⟨rfl, Below.refl _ _⟩
  · go_enter Try.func5, Try.ntmps5
    go_wp2_with fail
    go_ret
    exact ⟨rfl, Below.refl _ _⟩
end Go.Proofs.Ytmkoliebgibecaa
