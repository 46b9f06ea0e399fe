/- The walks of chapter 23's laws. -/
import Derived.Test.YtfagjbbljdgefaaLp
import Derived.Test.YtfagjbbljdgefaaLq
namespace Go.Proofs.Ytfagjbbljdgefaa
open Go.RowKit

theorem lAct_yes {h s n now d : Int} (H : lAct h s n now d = true) : hlOk h s n = true ∧ lsOk h s n = true ∧ 0 ≤ now ∧ now ≤ 999 ∧ 0 ≤ d ∧ d ≤ 99 ∧ s ≤ now ∧ now < s + n - d := by
  simp only [lAct, Bool.and_eq_true, decide_eq_true_eq] at H
  obtain ⟨⟨⟨⟨h1, h2⟩, h3⟩, h4⟩, h5, h6⟩ := H
  exact ⟨h4, h1, (tm_parts h2).1, (tm_parts h2).2, (df_parts h3).1, (df_parts h3).2, h5, h6⟩
theorem lExp_yes {h s n now d : Int} (H : lExp h s n now d = true) : lsOk h s n = true ∧ 0 ≤ now ∧ now ≤ 999 ∧ 0 ≤ d ∧ d ≤ 99 ∧ (hlOk h s n = true → s + n + d ≤ now) := by
  simp only [lExp, Bool.and_eq_true, Bool.or_eq_true, decide_eq_true_eq] at H
  obtain ⟨⟨⟨h1, h2⟩, h3⟩, h4⟩ := H
  exact ⟨h1, (tm_parts h2).1, (tm_parts h2).2, (df_parts h3).1, (df_parts h3).2, fun h => by
    rcases h4 with h4 | h4
    · rw [h] at h4
      cases h4
    · exact h4⟩
theorem excl {h s n now d x : Int} (H : lAct h s n now d = true) (h1 : x ≤ now + d) : lExp h s n x d = false := by
  rw [← Bool.not_eq_true]
  intro E
  obtain ⟨a, _, _, _, _, _, _, b⟩ := lAct_yes H
  obtain ⟨_, _, _, c, _, e⟩ := lExp_yes E
  have := e a
  omega
theorem act_of {h s n now d : Int} (hl : lsOk h s n = true) (n0 : 0 ≤ now) (n1 : now ≤ 999) (d0 : 0 ≤ d) (d1 : d ≤ 99) : lAct h s n now d = (hlOk h s n && decide (s ≤ now ∧ now < s + n - d)) := by
  simp only [lAct, hl, show tmOk now = true by simp [tmOk, n0, n1], show dfOk d = true by simp [dfOk, d0, d1], Bool.true_and]
theorem exp_of {h s n now d : Int} (hl : lsOk h s n = true) (n0 : 0 ≤ now) (n1 : now ≤ 999) (d0 : 0 ≤ d) (d1 : d ≤ 99) : lExp h s n now d = (!hlOk h s n || decide (s + n + d ≤ now)) := by
  simp only [lExp, hl, show tmOk now = true by simp [tmOk, n0, n1], show dfOk d = true by simp [dfOk, d0, d1], Bool.true_and]
theorem ls_pos {h s n : Int} (hl : lsOk h s n = true) (hp : 0 < h) : hlOk h s n = true := by
  simp only [lsOk, Bool.or_eq_true] at hl
  rcases hl with hl | hl
  · exact hl
  · have := no_parts hl; omega
theorem ls_zero {h s n : Int} (hp : h = 0) : hlOk h s n = false := by simp [hlOk, hp]
theorem act_less {h s n now d d' : Int} (hd : 0 ≤ d) (h1 : d ≤ d') (H : lAct h s n now d' = true) : lAct h s n now d = true := by
  obtain ⟨a, b, c1, c2, c3, c4, c5, c6⟩ := lAct_yes H
  rw [act_of b c1 c2 hd (by omega), a]
  simp
  omega
theorem exp_less {h s n now d d' : Int} (hd : 0 ≤ d) (h1 : d ≤ d') (H : lExp h s n now d' = true) : lExp h s n now d = true := by
  obtain ⟨b, c1, c2, c3, c4, c5⟩ := lExp_yes H
  rw [exp_of b c1 c2 hd (by omega)]
  cases hh : hlOk h s n with
  | false => rfl
  | true => simp; have := c5 hh; omega
theorem mod_in (x : Nat) {m : Int} (h : 0 < m) : 0 ≤ (x : Int) % m ∧ (x : Int) % m < m := ⟨Int.emod_nonneg _ (by omega), Int.emod_lt_of_pos _ h⟩
theorem tmod_e (x : Nat) (m : Int) : (x : Int).tmod m = (x : Int) % m := Int.tmod_eq_emod_of_nonneg (Int.natCast_nonneg x)

set_option linter.unusedVariables false in
set_option maxRecDepth 100000 in
set_option maxHeartbeats 3200000 in
theorem walkExclusive (A A' : Option Addr) (c c' : Nat) (l l' : List Int) (w : World) (ha : BL w A l) (hc : l.length ≤ c) (hm : l.length ≤ maxLen) (hmc : c ≤ maxLen) (ha' : BL w A' l') (hc' : l'.length ≤ c') (hm' : l'.length ≤ maxLen) (hmc' : c' ≤ maxLen) :
    Calls Try.prog 3 #[.slice A l.length c, .slice A' l'.length c'] w fun e w' => e = .returned (.bool true) ∧ Below w.heap.size w w' := by
  have hm1 := hm
  unfold maxLen at hm1
  have hm2 := hm'
  unfold maxLen at hm2
  by_cases hl : l.length ≤ 1048576
  · by_cases hl' : l'.length ≤ 1048576
    · clear ha' hc' hm' hmc'
      go_enter Try.func3, Try.ntmps3
      go_wp2_with fail
      refine (drawLA_any _ _ _ _ ha hc hm hmc).mono ?_
      rintro e w1 ⟨h, s, n, now, d, h0, h1, s0, s1, n0, n1, t0, t1, d0, d1, rfl, B1⟩
      clear ha hm hc hmc
      unfold AVal
      have H := Lib.hid (show Below w.heap.size w w1 ∧ True from ⟨B1, True.intro⟩)
      clear B1
      by_cases ht : lAct h s n now d = true
      · obtain ⟨_, _, t2, t3, d2, d3, t4, t5⟩ := lAct_yes ht
        obtain ⟨r0, r1⟩ := mod_in l'.length (m := 2 * d + 1) (by omega)
        have HT := Lib.hid ht
        have HX := Lib.hid (excl (x := now + (l'.length : Int) % (2 * d + 1) - d) ht (by omega))
        have nz : ¬ 2 * d + 1 = 0 := by omega
        have te := tmod_e l'.length (2 * d + 1)
        clear ht
        have H := Lib.hid (show Below w.heap.size w (w1.alloc (.cells #[.int .i64 h, .int .i64 s, .int .i64 n] 24)) ∧  AF3 (w1.alloc (.cells #[.int .i64 h, .int .i64 s, .int .i64 n] 24)) w1.heap.size h s n ∧ True from ⟨H.out.1.alloc H.out.1.size _,  AF3.new w1 h s n 24, True.intro⟩)
        obtain ⟨f00, f01, f02⟩ := cells3 H.out.2.1.ab
        go_wp2_with fail
        refine (iLsAct_any h s n now d _).mono ?_
        rintro e w2 ⟨rfl, bb⟩
        have H := Lib.hid (show Below w.heap.size w w2 ∧ AF3 w2 w1.heap.size h s n ∧  True from ⟨below_step H.out.1 bb, H.out.2.1.below bb,  True.intro⟩)
        clear bb
        first | clear f00 f01 f02 | skip
        rw [HT.out]
        obtain ⟨f00, f01, f02⟩ := cells3 H.out.2.1.ab
        go_wp2_with fail
        refine (sLsAct_any h s n now d _).mono ?_
        rintro e w3 ⟨rfl, bb⟩
        have H := Lib.hid (show Below w.heap.size w w3 ∧ AF3 w3 w1.heap.size h s n ∧  True from ⟨below_step H.out.1 bb, H.out.2.1.below bb,  True.intro⟩)
        clear bb
        first | clear f00 f01 f02 | skip
        rw [HT.out]
        obtain ⟨f00, f01, f02⟩ := cells3 H.out.2.1.ab
        go_wp2_with fail
        refine (iLsExp_any h s n _ d _).mono ?_
        rintro e w4 ⟨rfl, bb⟩
        have H := Lib.hid (show Below w.heap.size w w4 ∧ AF3 w4 w1.heap.size h s n ∧  True from ⟨below_step H.out.1 bb, H.out.2.1.below bb,  True.intro⟩)
        clear bb
        first | clear f00 f01 f02 | skip
        rw [HX.out]
        go_wp2
        go_ret
        exact ⟨rfl, H.out.1⟩
      · rw [Bool.not_eq_true] at ht
        have HT := Lib.hid ht
        clear ht
        have H := Lib.hid (show Below w.heap.size w (w1.alloc (.cells #[.int .i64 h, .int .i64 s, .int .i64 n] 24)) ∧  AF3 (w1.alloc (.cells #[.int .i64 h, .int .i64 s, .int .i64 n] 24)) w1.heap.size h s n ∧ True from ⟨H.out.1.alloc H.out.1.size _,  AF3.new w1 h s n 24, True.intro⟩)
        obtain ⟨f00, f01, f02⟩ := cells3 H.out.2.1.ab
        go_wp2_with fail
        refine (iLsAct_any h s n now d _).mono ?_
        rintro e w2 ⟨rfl, bb⟩
        have H := Lib.hid (show Below w.heap.size w w2 ∧ AF3 w2 w1.heap.size h s n ∧  True from ⟨below_step H.out.1 bb, H.out.2.1.below bb,  True.intro⟩)
        clear bb
        first | clear f00 f01 f02 | skip
        rw [HT.out]
        obtain ⟨f00, f01, f02⟩ := cells3 H.out.2.1.ab
        go_wp2_with fail
        refine (sLsAct_any h s n now d _).mono ?_
        rintro e w3 ⟨rfl, bb⟩
        have H := Lib.hid (show Below w.heap.size w w3 ∧ AF3 w3 w1.heap.size h s n ∧  True from ⟨below_step H.out.1 bb, H.out.2.1.below bb,  True.intro⟩)
        clear bb
        first | clear f00 f01 f02 | skip
        rw [HT.out]
        obtain ⟨f00, f01, f02⟩ := cells3 H.out.2.1.ab
        go_wp2_with fail
        refine (sLsAct_any h s n now d _).mono ?_
        rintro e w4 ⟨rfl, bb⟩
        have H := Lib.hid (show Below w.heap.size w w4 ∧ AF3 w4 w1.heap.size h s n ∧  True from ⟨below_step H.out.1 bb, H.out.2.1.below bb,  True.intro⟩)
        clear bb
        first | clear f00 f01 f02 | skip
        rw [HT.out]
        obtain ⟨f00, f01, f02⟩ := cells3 H.out.2.1.ab
        go_wp2
        go_ret
        exact ⟨rfl, H.out.1⟩
    · skip
      go_enter Try.func3, Try.ntmps3
      go_wp2
      go_ret
      exact ⟨rfl, Below.refl _ w⟩
  · skip
    go_enter Try.func3, Try.ntmps3
    go_wp2
    go_ret
    exact ⟨rfl, Below.refl _ w⟩

set_option maxRecDepth 100000 in
set_option maxHeartbeats 3200000 in
theorem walkLsAct (A : Option Addr) (c : Nat) (l : List Int) (w : World) (ha : BL w A l) (hc : l.length ≤ c) (hm : l.length ≤ maxLen) (hmc : c ≤ maxLen) :
    Calls Try.prog 4 #[.slice A l.length c] w fun e w' => e = .returned (.bool true) ∧ Below w.heap.size w w' := by
  have hm1 := hm
  unfold maxLen at hm1
  by_cases hl : l.length ≤ 1048576
  · go_enter Try.func4, Try.ntmps4
    go_wp2_with fail
    refine (drawLA_any _ _ _ _ ha hc hm hmc).mono ?_
    rintro e w1 ⟨h, s, n, now, d, h0, h1, s0, s1, n0, n1, t0, t1, d0, d1, rfl, B1⟩
    clear ha hm hc hmc
    unfold AVal
    have H := Lib.hid (show Below w.heap.size w w1 ∧ True from ⟨B1, True.intro⟩)
    clear B1
    by_cases hv : lsOk h s n = true
    · have HV := Lib.hid hv
      by_cases hn : now < 0
      · have g1 : decide (now < 0) = true := by simpa using hn
        clear hv hn
        obtain ⟨t, ht⟩ : ∃ t, lAct h s n now d = t := ⟨_, rfl⟩
        have HT := Lib.hid ht
        clear ht
        have H := Lib.hid (show Below w.heap.size w (w1.alloc (.cells #[.int .i64 h, .int .i64 s, .int .i64 n] 24)) ∧  AF3 (w1.alloc (.cells #[.int .i64 h, .int .i64 s, .int .i64 n] 24)) w1.heap.size h s n ∧ True from ⟨H.out.1.alloc H.out.1.size _,  AF3.new w1 h s n 24, True.intro⟩)
        obtain ⟨f00, f01, f02⟩ := cells3 H.out.2.1.ab
        go_wp2_with fail
        refine (iLsAct_any h s n now d _).mono ?_
        rintro e w2 ⟨rfl, bb⟩
        have H := Lib.hid (show Below w.heap.size w w2 ∧ AF3 w2 w1.heap.size h s n ∧  True from ⟨below_step H.out.1 bb, H.out.2.1.below bb,  True.intro⟩)
        clear bb
        first | clear f00 f01 f02 | skip
        rw [HT.out]
        obtain ⟨f00, f01, f02⟩ := cells3 H.out.2.1.ab
        go_wp2_with fail
        refine (sLsAct_any h s n now d _).mono ?_
        rintro e w3 ⟨rfl, bb⟩
        have H := Lib.hid (show Below w.heap.size w w3 ∧ AF3 w3 w1.heap.size h s n ∧  True from ⟨below_step H.out.1 bb, H.out.2.1.below bb,  True.intro⟩)
        clear bb
        first | clear f00 f01 f02 | skip
        rw [HT.out]
        obtain ⟨f00, f01, f02⟩ := cells3 H.out.2.1.ab
        go_wp2_with fail
        refine (sLsValid_any h s n _).mono ?_
        rintro e w4 ⟨rfl, bb⟩
        have H := Lib.hid (show Below w.heap.size w w4 ∧ AF3 w4 w1.heap.size h s n ∧  True from ⟨below_step H.out.1 bb, H.out.2.1.below bb,  True.intro⟩)
        clear bb
        first | clear f00 f01 f02 | skip
        rw [HV.out]
        obtain ⟨f00, f01, f02⟩ := cells3 H.out.2.1.ab
        go_wp2_with fail
        refine (sLsAct_any h s n now d _).mono ?_
        rintro e w5 ⟨rfl, bb⟩
        have H := Lib.hid (show Below w.heap.size w w5 ∧ AF3 w5 w1.heap.size h s n ∧  True from ⟨below_step H.out.1 bb, H.out.2.1.below bb,  True.intro⟩)
        clear bb
        first | clear f00 f01 f02 | skip
        rw [HT.out]
        obtain ⟨f00, f01, f02⟩ := cells3 H.out.2.1.ab
        go_wp2
        go_ret
        exact ⟨by first | rfl | simp_all, H.out.1⟩
      · have hn0 : 0 ≤ now := by omega
        have g1 : decide (now < 0) = false := by simpa using hn
        have g2 : decide (999 < now) = false := by simp; omega
        by_cases hd : d < 0
        · have g3 : decide (d < 0) = true := by simpa using hd
          clear hv hn hd
          obtain ⟨t, ht⟩ : ∃ t, lAct h s n now d = t := ⟨_, rfl⟩
          have HT := Lib.hid ht
          clear ht
          have H := Lib.hid (show Below w.heap.size w (w1.alloc (.cells #[.int .i64 h, .int .i64 s, .int .i64 n] 24)) ∧  AF3 (w1.alloc (.cells #[.int .i64 h, .int .i64 s, .int .i64 n] 24)) w1.heap.size h s n ∧ True from ⟨H.out.1.alloc H.out.1.size _,  AF3.new w1 h s n 24, True.intro⟩)
          obtain ⟨f00, f01, f02⟩ := cells3 H.out.2.1.ab
          go_wp2_with fail
          refine (iLsAct_any h s n now d _).mono ?_
          rintro e w2 ⟨rfl, bb⟩
          have H := Lib.hid (show Below w.heap.size w w2 ∧ AF3 w2 w1.heap.size h s n ∧  True from ⟨below_step H.out.1 bb, H.out.2.1.below bb,  True.intro⟩)
          clear bb
          first | clear f00 f01 f02 | skip
          rw [HT.out]
          obtain ⟨f00, f01, f02⟩ := cells3 H.out.2.1.ab
          go_wp2_with fail
          refine (sLsAct_any h s n now d _).mono ?_
          rintro e w3 ⟨rfl, bb⟩
          have H := Lib.hid (show Below w.heap.size w w3 ∧ AF3 w3 w1.heap.size h s n ∧  True from ⟨below_step H.out.1 bb, H.out.2.1.below bb,  True.intro⟩)
          clear bb
          first | clear f00 f01 f02 | skip
          rw [HT.out]
          obtain ⟨f00, f01, f02⟩ := cells3 H.out.2.1.ab
          go_wp2_with fail
          refine (sLsValid_any h s n _).mono ?_
          rintro e w4 ⟨rfl, bb⟩
          have H := Lib.hid (show Below w.heap.size w w4 ∧ AF3 w4 w1.heap.size h s n ∧  True from ⟨below_step H.out.1 bb, H.out.2.1.below bb,  True.intro⟩)
          clear bb
          first | clear f00 f01 f02 | skip
          rw [HV.out]
          obtain ⟨f00, f01, f02⟩ := cells3 H.out.2.1.ab
          go_wp2_with fail
          refine (sLsAct_any h s n now d _).mono ?_
          rintro e w5 ⟨rfl, bb⟩
          have H := Lib.hid (show Below w.heap.size w w5 ∧ AF3 w5 w1.heap.size h s n ∧  True from ⟨below_step H.out.1 bb, H.out.2.1.below bb,  True.intro⟩)
          clear bb
          first | clear f00 f01 f02 | skip
          rw [HT.out]
          obtain ⟨f00, f01, f02⟩ := cells3 H.out.2.1.ab
          go_wp2
          go_ret
          exact ⟨by first | rfl | simp_all, H.out.1⟩
        · have hd0 : 0 ≤ d := by omega
          have g3 : decide (d < 0) = false := by simpa using hd
          clear hn hd
          have ea := act_of hv hn0 (by omega : now ≤ 999) hd0 (by omega : d ≤ 99)
          by_cases hp : 0 < h
          · have hh := ls_pos hv hp
            have q0 : decide (0 < h) = true := by simpa using hp
            by_cases q : s ≤ now
            · have q1 : decide (s ≤ now) = true := by simpa using q
              by_cases q' : now < s + n - d
              · have q2 : decide (now < s + n - d) = true := by simpa using q'
                have HT := Lib.hid (show lAct h s n now d = true by rw [ea, hh]; simp; omega)
                clear hv ea hp hh q q'
                have H := Lib.hid (show Below w.heap.size w (w1.alloc (.cells #[.int .i64 h, .int .i64 s, .int .i64 n] 24)) ∧  AF3 (w1.alloc (.cells #[.int .i64 h, .int .i64 s, .int .i64 n] 24)) w1.heap.size h s n ∧ True from ⟨H.out.1.alloc H.out.1.size _,  AF3.new w1 h s n 24, True.intro⟩)
                obtain ⟨f00, f01, f02⟩ := cells3 H.out.2.1.ab
                go_wp2_with fail
                refine (iLsAct_any h s n now d _).mono ?_
                rintro e w2 ⟨rfl, bb⟩
                have H := Lib.hid (show Below w.heap.size w w2 ∧ AF3 w2 w1.heap.size h s n ∧  True from ⟨below_step H.out.1 bb, H.out.2.1.below bb,  True.intro⟩)
                clear bb
                first | clear f00 f01 f02 | skip
                rw [HT.out]
                obtain ⟨f00, f01, f02⟩ := cells3 H.out.2.1.ab
                go_wp2_with fail
                refine (sLsAct_any h s n now d _).mono ?_
                rintro e w3 ⟨rfl, bb⟩
                have H := Lib.hid (show Below w.heap.size w w3 ∧ AF3 w3 w1.heap.size h s n ∧  True from ⟨below_step H.out.1 bb, H.out.2.1.below bb,  True.intro⟩)
                clear bb
                first | clear f00 f01 f02 | skip
                rw [HT.out]
                obtain ⟨f00, f01, f02⟩ := cells3 H.out.2.1.ab
                go_wp2_with fail
                refine (sLsValid_any h s n _).mono ?_
                rintro e w4 ⟨rfl, bb⟩
                have H := Lib.hid (show Below w.heap.size w w4 ∧ AF3 w4 w1.heap.size h s n ∧  True from ⟨below_step H.out.1 bb, H.out.2.1.below bb,  True.intro⟩)
                clear bb
                first | clear f00 f01 f02 | skip
                rw [HV.out]
                obtain ⟨f00, f01, f02⟩ := cells3 H.out.2.1.ab
                go_wp2
                go_ret
                exact ⟨by first | rfl | simp_all, H.out.1⟩
              · have q2 : decide (now < s + n - d) = false := by simpa using q'
                have HT := Lib.hid (show lAct h s n now d = false by rw [ea, hh]; simp; omega)
                clear hv ea hp hh q q'
                have H := Lib.hid (show Below w.heap.size w (w1.alloc (.cells #[.int .i64 h, .int .i64 s, .int .i64 n] 24)) ∧  AF3 (w1.alloc (.cells #[.int .i64 h, .int .i64 s, .int .i64 n] 24)) w1.heap.size h s n ∧ True from ⟨H.out.1.alloc H.out.1.size _,  AF3.new w1 h s n 24, True.intro⟩)
                obtain ⟨f00, f01, f02⟩ := cells3 H.out.2.1.ab
                go_wp2_with fail
                refine (iLsAct_any h s n now d _).mono ?_
                rintro e w2 ⟨rfl, bb⟩
                have H := Lib.hid (show Below w.heap.size w w2 ∧ AF3 w2 w1.heap.size h s n ∧  True from ⟨below_step H.out.1 bb, H.out.2.1.below bb,  True.intro⟩)
                clear bb
                first | clear f00 f01 f02 | skip
                rw [HT.out]
                obtain ⟨f00, f01, f02⟩ := cells3 H.out.2.1.ab
                go_wp2_with fail
                refine (sLsAct_any h s n now d _).mono ?_
                rintro e w3 ⟨rfl, bb⟩
                have H := Lib.hid (show Below w.heap.size w w3 ∧ AF3 w3 w1.heap.size h s n ∧  True from ⟨below_step H.out.1 bb, H.out.2.1.below bb,  True.intro⟩)
                clear bb
                first | clear f00 f01 f02 | skip
                rw [HT.out]
                obtain ⟨f00, f01, f02⟩ := cells3 H.out.2.1.ab
                go_wp2_with fail
                refine (sLsValid_any h s n _).mono ?_
                rintro e w4 ⟨rfl, bb⟩
                have H := Lib.hid (show Below w.heap.size w w4 ∧ AF3 w4 w1.heap.size h s n ∧  True from ⟨below_step H.out.1 bb, H.out.2.1.below bb,  True.intro⟩)
                clear bb
                first | clear f00 f01 f02 | skip
                rw [HV.out]
                obtain ⟨f00, f01, f02⟩ := cells3 H.out.2.1.ab
                go_wp2
                go_ret
                exact ⟨by first | rfl | simp_all, H.out.1⟩
            · have q1 : decide (s ≤ now) = false := by simpa using q
              have HT := Lib.hid (show lAct h s n now d = false by rw [ea, hh]; simp; omega)
              clear hv ea hp hh q
              have H := Lib.hid (show Below w.heap.size w (w1.alloc (.cells #[.int .i64 h, .int .i64 s, .int .i64 n] 24)) ∧  AF3 (w1.alloc (.cells #[.int .i64 h, .int .i64 s, .int .i64 n] 24)) w1.heap.size h s n ∧ True from ⟨H.out.1.alloc H.out.1.size _,  AF3.new w1 h s n 24, True.intro⟩)
              obtain ⟨f00, f01, f02⟩ := cells3 H.out.2.1.ab
              go_wp2_with fail
              refine (iLsAct_any h s n now d _).mono ?_
              rintro e w2 ⟨rfl, bb⟩
              have H := Lib.hid (show Below w.heap.size w w2 ∧ AF3 w2 w1.heap.size h s n ∧  True from ⟨below_step H.out.1 bb, H.out.2.1.below bb,  True.intro⟩)
              clear bb
              first | clear f00 f01 f02 | skip
              rw [HT.out]
              obtain ⟨f00, f01, f02⟩ := cells3 H.out.2.1.ab
              go_wp2_with fail
              refine (sLsAct_any h s n now d _).mono ?_
              rintro e w3 ⟨rfl, bb⟩
              have H := Lib.hid (show Below w.heap.size w w3 ∧ AF3 w3 w1.heap.size h s n ∧  True from ⟨below_step H.out.1 bb, H.out.2.1.below bb,  True.intro⟩)
              clear bb
              first | clear f00 f01 f02 | skip
              rw [HT.out]
              obtain ⟨f00, f01, f02⟩ := cells3 H.out.2.1.ab
              go_wp2_with fail
              refine (sLsValid_any h s n _).mono ?_
              rintro e w4 ⟨rfl, bb⟩
              have H := Lib.hid (show Below w.heap.size w w4 ∧ AF3 w4 w1.heap.size h s n ∧  True from ⟨below_step H.out.1 bb, H.out.2.1.below bb,  True.intro⟩)
              clear bb
              first | clear f00 f01 f02 | skip
              rw [HV.out]
              obtain ⟨f00, f01, f02⟩ := cells3 H.out.2.1.ab
              go_wp2
              go_ret
              exact ⟨by first | rfl | simp_all, H.out.1⟩
          · have q0 : decide (0 < h) = false := by simpa using hp
            have HT := Lib.hid (show lAct h s n now d = false by rw [ea, show hlOk h s n = false from ls_zero (by omega)]; rfl)
            clear hv ea hp
            have H := Lib.hid (show Below w.heap.size w (w1.alloc (.cells #[.int .i64 h, .int .i64 s, .int .i64 n] 24)) ∧  AF3 (w1.alloc (.cells #[.int .i64 h, .int .i64 s, .int .i64 n] 24)) w1.heap.size h s n ∧ True from ⟨H.out.1.alloc H.out.1.size _,  AF3.new w1 h s n 24, True.intro⟩)
            obtain ⟨f00, f01, f02⟩ := cells3 H.out.2.1.ab
            go_wp2_with fail
            refine (iLsAct_any h s n now d _).mono ?_
            rintro e w2 ⟨rfl, bb⟩
            have H := Lib.hid (show Below w.heap.size w w2 ∧ AF3 w2 w1.heap.size h s n ∧  True from ⟨below_step H.out.1 bb, H.out.2.1.below bb,  True.intro⟩)
            clear bb
            first | clear f00 f01 f02 | skip
            rw [HT.out]
            obtain ⟨f00, f01, f02⟩ := cells3 H.out.2.1.ab
            go_wp2_with fail
            refine (sLsAct_any h s n now d _).mono ?_
            rintro e w3 ⟨rfl, bb⟩
            have H := Lib.hid (show Below w.heap.size w w3 ∧ AF3 w3 w1.heap.size h s n ∧  True from ⟨below_step H.out.1 bb, H.out.2.1.below bb,  True.intro⟩)
            clear bb
            first | clear f00 f01 f02 | skip
            rw [HT.out]
            obtain ⟨f00, f01, f02⟩ := cells3 H.out.2.1.ab
            go_wp2_with fail
            refine (sLsValid_any h s n _).mono ?_
            rintro e w4 ⟨rfl, bb⟩
            have H := Lib.hid (show Below w.heap.size w w4 ∧ AF3 w4 w1.heap.size h s n ∧  True from ⟨below_step H.out.1 bb, H.out.2.1.below bb,  True.intro⟩)
            clear bb
            first | clear f00 f01 f02 | skip
            rw [HV.out]
            obtain ⟨f00, f01, f02⟩ := cells3 H.out.2.1.ab
            go_wp2
            go_ret
            exact ⟨by first | rfl | simp_all, H.out.1⟩
    · rw [Bool.not_eq_true] at hv
      have HV := Lib.hid hv
      clear hv
      obtain ⟨t, ht⟩ : ∃ t, lAct h s n now d = t := ⟨_, rfl⟩
      have HT := Lib.hid ht
      clear ht
      have H := Lib.hid (show Below w.heap.size w (w1.alloc (.cells #[.int .i64 h, .int .i64 s, .int .i64 n] 24)) ∧  AF3 (w1.alloc (.cells #[.int .i64 h, .int .i64 s, .int .i64 n] 24)) w1.heap.size h s n ∧ True from ⟨H.out.1.alloc H.out.1.size _,  AF3.new w1 h s n 24, True.intro⟩)
      obtain ⟨f00, f01, f02⟩ := cells3 H.out.2.1.ab
      go_wp2_with fail
      refine (iLsAct_any h s n now d _).mono ?_
      rintro e w2 ⟨rfl, bb⟩
      have H := Lib.hid (show Below w.heap.size w w2 ∧ AF3 w2 w1.heap.size h s n ∧  True from ⟨below_step H.out.1 bb, H.out.2.1.below bb,  True.intro⟩)
      clear bb
      first | clear f00 f01 f02 | skip
      rw [HT.out]
      obtain ⟨f00, f01, f02⟩ := cells3 H.out.2.1.ab
      go_wp2_with fail
      refine (sLsAct_any h s n now d _).mono ?_
      rintro e w3 ⟨rfl, bb⟩
      have H := Lib.hid (show Below w.heap.size w w3 ∧ AF3 w3 w1.heap.size h s n ∧  True from ⟨below_step H.out.1 bb, H.out.2.1.below bb,  True.intro⟩)
      clear bb
      first | clear f00 f01 f02 | skip
      rw [HT.out]
      obtain ⟨f00, f01, f02⟩ := cells3 H.out.2.1.ab
      go_wp2_with fail
      refine (sLsValid_any h s n _).mono ?_
      rintro e w4 ⟨rfl, bb⟩
      have H := Lib.hid (show Below w.heap.size w w4 ∧ AF3 w4 w1.heap.size h s n ∧  True from ⟨below_step H.out.1 bb, H.out.2.1.below bb,  True.intro⟩)
      clear bb
      first | clear f00 f01 f02 | skip
      rw [HV.out]
      obtain ⟨f00, f01, f02⟩ := cells3 H.out.2.1.ab
      go_wp2_with fail
      refine (sLsAct_any h s n now d _).mono ?_
      rintro e w5 ⟨rfl, bb⟩
      have H := Lib.hid (show Below w.heap.size w w5 ∧ AF3 w5 w1.heap.size h s n ∧  True from ⟨below_step H.out.1 bb, H.out.2.1.below bb,  True.intro⟩)
      clear bb
      first | clear f00 f01 f02 | skip
      rw [HT.out]
      obtain ⟨f00, f01, f02⟩ := cells3 H.out.2.1.ab
      go_wp2
      go_ret
      exact ⟨by first | rfl | simp_all, H.out.1⟩
  · skip
    go_enter Try.func4, Try.ntmps4
    go_wp2
    go_ret
    exact ⟨rfl, Below.refl _ w⟩

set_option linter.unusedVariables false in
set_option maxRecDepth 100000 in
set_option maxHeartbeats 3200000 in
theorem walkLsExp (A A' : Option Addr) (c c' : Nat) (l l' : List Int) (w : World) (ha : BL w A l) (hc : l.length ≤ c) (hm : l.length ≤ maxLen) (hmc : c ≤ maxLen) (ha' : BL w A' l') (hc' : l'.length ≤ c') (hm' : l'.length ≤ maxLen) (hmc' : c' ≤ maxLen) :
    Calls Try.prog 5 #[.slice A l.length c, .slice A' l'.length c'] w fun e w' => e = .returned (.bool true) ∧ Below w.heap.size w w' := by
  have hm1 := hm
  unfold maxLen at hm1
  have hm2 := hm'
  unfold maxLen at hm2
  by_cases hl : l.length ≤ 1048576
  · by_cases hl' : l'.length ≤ 1048576
    · clear ha' hc' hm' hmc'
      go_enter Try.func5, Try.ntmps5
      go_wp2_with fail
      refine (drawLE_any _ _ _ _ ha hc hm hmc).mono ?_
      rintro e w1 ⟨h, s, n, now, d, h0, h1, s0, s1, n0, n1, t0, t1, d0, d1, rfl, B1⟩
      clear ha hm hc hmc
      unfold AVal
      have H := Lib.hid (show Below w.heap.size w w1 ∧ True from ⟨B1, True.intro⟩)
      clear B1
      by_cases hv : lsOk h s n = true
      · have HV := Lib.hid hv
        by_cases hn : now < 0
        · have g1 : decide (now < 0) = true := by simpa using hn
          clear hv hn
          obtain ⟨t, ht⟩ : ∃ t, lExp h s n now d = t := ⟨_, rfl⟩
          have HT := Lib.hid ht
          clear ht
          have H := Lib.hid (show Below w.heap.size w (w1.alloc (.cells #[.int .i64 h, .int .i64 s, .int .i64 n] 24)) ∧  AF3 (w1.alloc (.cells #[.int .i64 h, .int .i64 s, .int .i64 n] 24)) w1.heap.size h s n ∧ True from ⟨H.out.1.alloc H.out.1.size _,  AF3.new w1 h s n 24, True.intro⟩)
          obtain ⟨f00, f01, f02⟩ := cells3 H.out.2.1.ab
          go_wp2_with fail
          refine (iLsExp_any h s n now d _).mono ?_
          rintro e w2 ⟨rfl, bb⟩
          have H := Lib.hid (show Below w.heap.size w w2 ∧ AF3 w2 w1.heap.size h s n ∧  True from ⟨below_step H.out.1 bb, H.out.2.1.below bb,  True.intro⟩)
          clear bb
          first | clear f00 f01 f02 | skip
          rw [HT.out]
          obtain ⟨f00, f01, f02⟩ := cells3 H.out.2.1.ab
          go_wp2_with fail
          refine (sLsExp_any h s n now d _).mono ?_
          rintro e w3 ⟨rfl, bb⟩
          have H := Lib.hid (show Below w.heap.size w w3 ∧ AF3 w3 w1.heap.size h s n ∧  True from ⟨below_step H.out.1 bb, H.out.2.1.below bb,  True.intro⟩)
          clear bb
          first | clear f00 f01 f02 | skip
          rw [HT.out]
          obtain ⟨f00, f01, f02⟩ := cells3 H.out.2.1.ab
          go_wp2_with fail
          refine (sLsValid_any h s n _).mono ?_
          rintro e w4 ⟨rfl, bb⟩
          have H := Lib.hid (show Below w.heap.size w w4 ∧ AF3 w4 w1.heap.size h s n ∧  True from ⟨below_step H.out.1 bb, H.out.2.1.below bb,  True.intro⟩)
          clear bb
          first | clear f00 f01 f02 | skip
          rw [HV.out]
          obtain ⟨f00, f01, f02⟩ := cells3 H.out.2.1.ab
          go_wp2_with fail
          refine (sLsExp_any h s n now d _).mono ?_
          rintro e w5 ⟨rfl, bb⟩
          have H := Lib.hid (show Below w.heap.size w w5 ∧ AF3 w5 w1.heap.size h s n ∧  True from ⟨below_step H.out.1 bb, H.out.2.1.below bb,  True.intro⟩)
          clear bb
          first | clear f00 f01 f02 | skip
          rw [HT.out]
          obtain ⟨f00, f01, f02⟩ := cells3 H.out.2.1.ab
          go_wp2
          go_ret
          exact ⟨by first | rfl | simp_all, H.out.1⟩
        · have hn0 : 0 ≤ now := by omega
          have g1 : decide (now < 0) = false := by simpa using hn
          have g2 : decide (999 < now) = false := by simp; omega
          by_cases hd : d < 0
          · have g3 : decide (d < 0) = true := by simpa using hd
            clear hv hn hd
            obtain ⟨t, ht⟩ : ∃ t, lExp h s n now d = t := ⟨_, rfl⟩
            have HT := Lib.hid ht
            clear ht
            have H := Lib.hid (show Below w.heap.size w (w1.alloc (.cells #[.int .i64 h, .int .i64 s, .int .i64 n] 24)) ∧  AF3 (w1.alloc (.cells #[.int .i64 h, .int .i64 s, .int .i64 n] 24)) w1.heap.size h s n ∧ True from ⟨H.out.1.alloc H.out.1.size _,  AF3.new w1 h s n 24, True.intro⟩)
            obtain ⟨f00, f01, f02⟩ := cells3 H.out.2.1.ab
            go_wp2_with fail
            refine (iLsExp_any h s n now d _).mono ?_
            rintro e w2 ⟨rfl, bb⟩
            have H := Lib.hid (show Below w.heap.size w w2 ∧ AF3 w2 w1.heap.size h s n ∧  True from ⟨below_step H.out.1 bb, H.out.2.1.below bb,  True.intro⟩)
            clear bb
            first | clear f00 f01 f02 | skip
            rw [HT.out]
            obtain ⟨f00, f01, f02⟩ := cells3 H.out.2.1.ab
            go_wp2_with fail
            refine (sLsExp_any h s n now d _).mono ?_
            rintro e w3 ⟨rfl, bb⟩
            have H := Lib.hid (show Below w.heap.size w w3 ∧ AF3 w3 w1.heap.size h s n ∧  True from ⟨below_step H.out.1 bb, H.out.2.1.below bb,  True.intro⟩)
            clear bb
            first | clear f00 f01 f02 | skip
            rw [HT.out]
            obtain ⟨f00, f01, f02⟩ := cells3 H.out.2.1.ab
            go_wp2_with fail
            refine (sLsValid_any h s n _).mono ?_
            rintro e w4 ⟨rfl, bb⟩
            have H := Lib.hid (show Below w.heap.size w w4 ∧ AF3 w4 w1.heap.size h s n ∧  True from ⟨below_step H.out.1 bb, H.out.2.1.below bb,  True.intro⟩)
            clear bb
            first | clear f00 f01 f02 | skip
            rw [HV.out]
            obtain ⟨f00, f01, f02⟩ := cells3 H.out.2.1.ab
            go_wp2_with fail
            refine (sLsExp_any h s n now d _).mono ?_
            rintro e w5 ⟨rfl, bb⟩
            have H := Lib.hid (show Below w.heap.size w w5 ∧ AF3 w5 w1.heap.size h s n ∧  True from ⟨below_step H.out.1 bb, H.out.2.1.below bb,  True.intro⟩)
            clear bb
            first | clear f00 f01 f02 | skip
            rw [HT.out]
            obtain ⟨f00, f01, f02⟩ := cells3 H.out.2.1.ab
            go_wp2
            go_ret
            exact ⟨by first | rfl | simp_all, H.out.1⟩
          · have hd0 : 0 ≤ d := by omega
            have g3 : decide (d < 0) = false := by simpa using hd
            clear hn hd
            have ea := exp_of hv hn0 (by omega : now ≤ 999) hd0 (by omega : d ≤ 99)
            obtain ⟨r0, r1⟩ := mod_in l'.length (m := 999 - now + 1) (by omega)
            have nz : ¬ 999 - now + 1 = 0 := by omega
            have te := tmod_e l'.length (999 - now + 1)
            have eb := exp_of hv (by omega : 0 ≤ now + (l'.length : Int) % (999 - now + 1)) (by omega : now + (l'.length : Int) % (999 - now + 1) ≤ 999) hd0 (by omega : d ≤ 99)
            by_cases hp : h = 0
            · have q0 : (h == 0) = true := by simpa using hp
              have hh : hlOk h s n = false := ls_zero hp
              have HT := Lib.hid (show lExp h s n now d = true by rw [ea, hh]; rfl)
              have HX := Lib.hid (show lExp h s n (now + (l'.length : Int) % (999 - now + 1)) d = true by rw [eb, hh]; rfl)
              clear hv ea eb hp hh
              have H := Lib.hid (show Below w.heap.size w (w1.alloc (.cells #[.int .i64 h, .int .i64 s, .int .i64 n] 24)) ∧  AF3 (w1.alloc (.cells #[.int .i64 h, .int .i64 s, .int .i64 n] 24)) w1.heap.size h s n ∧ True from ⟨H.out.1.alloc H.out.1.size _,  AF3.new w1 h s n 24, True.intro⟩)
              obtain ⟨f00, f01, f02⟩ := cells3 H.out.2.1.ab
              go_wp2_with fail
              refine (iLsExp_any h s n now d _).mono ?_
              rintro e w2 ⟨rfl, bb⟩
              have H := Lib.hid (show Below w.heap.size w w2 ∧ AF3 w2 w1.heap.size h s n ∧  True from ⟨below_step H.out.1 bb, H.out.2.1.below bb,  True.intro⟩)
              clear bb
              first | clear f00 f01 f02 | skip
              rw [HT.out]
              obtain ⟨f00, f01, f02⟩ := cells3 H.out.2.1.ab
              go_wp2_with fail
              refine (sLsExp_any h s n now d _).mono ?_
              rintro e w3 ⟨rfl, bb⟩
              have H := Lib.hid (show Below w.heap.size w w3 ∧ AF3 w3 w1.heap.size h s n ∧  True from ⟨below_step H.out.1 bb, H.out.2.1.below bb,  True.intro⟩)
              clear bb
              first | clear f00 f01 f02 | skip
              rw [HT.out]
              obtain ⟨f00, f01, f02⟩ := cells3 H.out.2.1.ab
              go_wp2_with fail
              refine (sLsValid_any h s n _).mono ?_
              rintro e w4 ⟨rfl, bb⟩
              have H := Lib.hid (show Below w.heap.size w w4 ∧ AF3 w4 w1.heap.size h s n ∧  True from ⟨below_step H.out.1 bb, H.out.2.1.below bb,  True.intro⟩)
              clear bb
              first | clear f00 f01 f02 | skip
              rw [HV.out]
              obtain ⟨f00, f01, f02⟩ := cells3 H.out.2.1.ab
              go_wp2_with fail
              refine (iLsExp_any h s n _ d _).mono ?_
              rintro e w5 ⟨rfl, bb⟩
              have H := Lib.hid (show Below w.heap.size w w5 ∧ AF3 w5 w1.heap.size h s n ∧  True from ⟨below_step H.out.1 bb, H.out.2.1.below bb,  True.intro⟩)
              clear bb
              first | clear f00 f01 f02 | skip
              rw [HX.out]
              go_wp2
              go_ret
              exact ⟨by first | rfl | simp_all, H.out.1⟩
            · have q0 : (h == 0) = false := by simpa using hp
              have hh : hlOk h s n = true := ls_pos hv (by omega)
              by_cases q : s + n + d ≤ now
              · have q1 : decide (s + n + d ≤ now) = true := by simpa using q
                have HT := Lib.hid (show lExp h s n now d = true by rw [ea, hh]; simp; omega)
                have HX := Lib.hid (show lExp h s n (now + (l'.length : Int) % (999 - now + 1)) d = true by rw [eb, hh]; simp; omega)
                clear hv ea eb hp hh q
                have H := Lib.hid (show Below w.heap.size w (w1.alloc (.cells #[.int .i64 h, .int .i64 s, .int .i64 n] 24)) ∧  AF3 (w1.alloc (.cells #[.int .i64 h, .int .i64 s, .int .i64 n] 24)) w1.heap.size h s n ∧ True from ⟨H.out.1.alloc H.out.1.size _,  AF3.new w1 h s n 24, True.intro⟩)
                obtain ⟨f00, f01, f02⟩ := cells3 H.out.2.1.ab
                go_wp2_with fail
                refine (iLsExp_any h s n now d _).mono ?_
                rintro e w2 ⟨rfl, bb⟩
                have H := Lib.hid (show Below w.heap.size w w2 ∧ AF3 w2 w1.heap.size h s n ∧  True from ⟨below_step H.out.1 bb, H.out.2.1.below bb,  True.intro⟩)
                clear bb
                first | clear f00 f01 f02 | skip
                rw [HT.out]
                obtain ⟨f00, f01, f02⟩ := cells3 H.out.2.1.ab
                go_wp2_with fail
                refine (sLsExp_any h s n now d _).mono ?_
                rintro e w3 ⟨rfl, bb⟩
                have H := Lib.hid (show Below w.heap.size w w3 ∧ AF3 w3 w1.heap.size h s n ∧  True from ⟨below_step H.out.1 bb, H.out.2.1.below bb,  True.intro⟩)
                clear bb
                first | clear f00 f01 f02 | skip
                rw [HT.out]
                obtain ⟨f00, f01, f02⟩ := cells3 H.out.2.1.ab
                go_wp2_with fail
                refine (sLsValid_any h s n _).mono ?_
                rintro e w4 ⟨rfl, bb⟩
                have H := Lib.hid (show Below w.heap.size w w4 ∧ AF3 w4 w1.heap.size h s n ∧  True from ⟨below_step H.out.1 bb, H.out.2.1.below bb,  True.intro⟩)
                clear bb
                first | clear f00 f01 f02 | skip
                rw [HV.out]
                obtain ⟨f00, f01, f02⟩ := cells3 H.out.2.1.ab
                go_wp2_with fail
                refine (iLsExp_any h s n _ d _).mono ?_
                rintro e w5 ⟨rfl, bb⟩
                have H := Lib.hid (show Below w.heap.size w w5 ∧ AF3 w5 w1.heap.size h s n ∧  True from ⟨below_step H.out.1 bb, H.out.2.1.below bb,  True.intro⟩)
                clear bb
                first | clear f00 f01 f02 | skip
                rw [HX.out]
                go_wp2
                go_ret
                exact ⟨by first | rfl | simp_all, H.out.1⟩
              · have q1 : decide (s + n + d ≤ now) = false := by simpa using q
                have HT := Lib.hid (show lExp h s n now d = false by rw [ea, hh]; simp; omega)
                clear hv ea eb hp hh q
                have H := Lib.hid (show Below w.heap.size w (w1.alloc (.cells #[.int .i64 h, .int .i64 s, .int .i64 n] 24)) ∧  AF3 (w1.alloc (.cells #[.int .i64 h, .int .i64 s, .int .i64 n] 24)) w1.heap.size h s n ∧ True from ⟨H.out.1.alloc H.out.1.size _,  AF3.new w1 h s n 24, True.intro⟩)
                obtain ⟨f00, f01, f02⟩ := cells3 H.out.2.1.ab
                go_wp2_with fail
                refine (iLsExp_any h s n now d _).mono ?_
                rintro e w2 ⟨rfl, bb⟩
                have H := Lib.hid (show Below w.heap.size w w2 ∧ AF3 w2 w1.heap.size h s n ∧  True from ⟨below_step H.out.1 bb, H.out.2.1.below bb,  True.intro⟩)
                clear bb
                first | clear f00 f01 f02 | skip
                rw [HT.out]
                obtain ⟨f00, f01, f02⟩ := cells3 H.out.2.1.ab
                go_wp2_with fail
                refine (sLsExp_any h s n now d _).mono ?_
                rintro e w3 ⟨rfl, bb⟩
                have H := Lib.hid (show Below w.heap.size w w3 ∧ AF3 w3 w1.heap.size h s n ∧  True from ⟨below_step H.out.1 bb, H.out.2.1.below bb,  True.intro⟩)
                clear bb
                first | clear f00 f01 f02 | skip
                rw [HT.out]
                obtain ⟨f00, f01, f02⟩ := cells3 H.out.2.1.ab
                go_wp2_with fail
                refine (sLsValid_any h s n _).mono ?_
                rintro e w4 ⟨rfl, bb⟩
                have H := Lib.hid (show Below w.heap.size w w4 ∧ AF3 w4 w1.heap.size h s n ∧  True from ⟨below_step H.out.1 bb, H.out.2.1.below bb,  True.intro⟩)
                clear bb
                first | clear f00 f01 f02 | skip
                rw [HV.out]
                obtain ⟨f00, f01, f02⟩ := cells3 H.out.2.1.ab
                go_wp2
                go_ret
                exact ⟨by first | rfl | simp_all, H.out.1⟩
      · rw [Bool.not_eq_true] at hv
        have HV := Lib.hid hv
        clear hv
        obtain ⟨t, ht⟩ : ∃ t, lExp h s n now d = t := ⟨_, rfl⟩
        have HT := Lib.hid ht
        clear ht
        have H := Lib.hid (show Below w.heap.size w (w1.alloc (.cells #[.int .i64 h, .int .i64 s, .int .i64 n] 24)) ∧  AF3 (w1.alloc (.cells #[.int .i64 h, .int .i64 s, .int .i64 n] 24)) w1.heap.size h s n ∧ True from ⟨H.out.1.alloc H.out.1.size _,  AF3.new w1 h s n 24, True.intro⟩)
        obtain ⟨f00, f01, f02⟩ := cells3 H.out.2.1.ab
        go_wp2_with fail
        refine (iLsExp_any h s n now d _).mono ?_
        rintro e w2 ⟨rfl, bb⟩
        have H := Lib.hid (show Below w.heap.size w w2 ∧ AF3 w2 w1.heap.size h s n ∧  True from ⟨below_step H.out.1 bb, H.out.2.1.below bb,  True.intro⟩)
        clear bb
        first | clear f00 f01 f02 | skip
        rw [HT.out]
        obtain ⟨f00, f01, f02⟩ := cells3 H.out.2.1.ab
        go_wp2_with fail
        refine (sLsExp_any h s n now d _).mono ?_
        rintro e w3 ⟨rfl, bb⟩
        have H := Lib.hid (show Below w.heap.size w w3 ∧ AF3 w3 w1.heap.size h s n ∧  True from ⟨below_step H.out.1 bb, H.out.2.1.below bb,  True.intro⟩)
        clear bb
        first | clear f00 f01 f02 | skip
        rw [HT.out]
        obtain ⟨f00, f01, f02⟩ := cells3 H.out.2.1.ab
        go_wp2_with fail
        refine (sLsValid_any h s n _).mono ?_
        rintro e w4 ⟨rfl, bb⟩
        have H := Lib.hid (show Below w.heap.size w w4 ∧ AF3 w4 w1.heap.size h s n ∧  True from ⟨below_step H.out.1 bb, H.out.2.1.below bb,  True.intro⟩)
        clear bb
        first | clear f00 f01 f02 | skip
        rw [HV.out]
        obtain ⟨f00, f01, f02⟩ := cells3 H.out.2.1.ab
        go_wp2_with fail
        refine (sLsExp_any h s n now d _).mono ?_
        rintro e w5 ⟨rfl, bb⟩
        have H := Lib.hid (show Below w.heap.size w w5 ∧ AF3 w5 w1.heap.size h s n ∧  True from ⟨below_step H.out.1 bb, H.out.2.1.below bb,  True.intro⟩)
        clear bb
        first | clear f00 f01 f02 | skip
        rw [HT.out]
        obtain ⟨f00, f01, f02⟩ := cells3 H.out.2.1.ab
        go_wp2
        go_ret
        exact ⟨by first | rfl | simp_all, H.out.1⟩
    · skip
      go_enter Try.func5, Try.ntmps5
      go_wp2
      go_ret
      exact ⟨rfl, Below.refl _ w⟩
  · skip
    go_enter Try.func5, Try.ntmps5
    go_wp2
    go_ret
    exact ⟨rfl, Below.refl _ w⟩

set_option linter.unusedVariables false in
set_option maxRecDepth 100000 in
set_option maxHeartbeats 3200000 in
theorem walkLsDrift (A A' : Option Addr) (c c' : Nat) (l l' : List Int) (w : World) (ha : BL w A l) (hc : l.length ≤ c) (hm : l.length ≤ maxLen) (hmc : c ≤ maxLen) (ha' : BL w A' l') (hc' : l'.length ≤ c') (hm' : l'.length ≤ maxLen) (hmc' : c' ≤ maxLen) :
    Calls Try.prog 10 #[.slice A l.length c, .slice A' l'.length c'] w fun e w' => e = .returned (.bool true) ∧ Below w.heap.size w w' := by
  have hm1 := hm
  unfold maxLen at hm1
  have hm2 := hm'
  unfold maxLen at hm2
  by_cases hl : l.length ≤ 1048576
  · by_cases hl' : l'.length ≤ 1048576
    · clear ha' hc' hm' hmc'
      go_enter Try.func10, Try.ntmps10
      go_wp2_with fail
      refine (drawLA_any _ _ _ _ ha hc hm hmc).mono ?_
      rintro e w1 ⟨h, s, n, now, d, h0, h1, s0, s1, n0, n1, t0, t1, d0, d1, rfl, B1⟩
      clear ha hm hc hmc
      unfold AVal
      have H := Lib.hid (show Below w.heap.size w w1 ∧ True from ⟨B1, True.intro⟩)
      clear B1
      by_cases hd : d < 0
      · have g3 : decide (d < 0) = true := by simpa using hd
        clear hd
        obtain ⟨t, ht⟩ : ∃ t, lAct h s n now d = t := ⟨_, rfl⟩
        have HT := Lib.hid ht
        clear ht
        have H := Lib.hid (show Below w.heap.size w (w1.alloc (.cells #[.int .i64 h, .int .i64 s, .int .i64 n] 24)) ∧  AF3 (w1.alloc (.cells #[.int .i64 h, .int .i64 s, .int .i64 n] 24)) w1.heap.size h s n ∧ True from ⟨H.out.1.alloc H.out.1.size _,  AF3.new w1 h s n 24, True.intro⟩)
        obtain ⟨f00, f01, f02⟩ := cells3 H.out.2.1.ab
        go_wp2_with fail
        refine (iLsAct_any h s n now d _).mono ?_
        rintro e w2 ⟨rfl, bb⟩
        have H := Lib.hid (show Below w.heap.size w w2 ∧ AF3 w2 w1.heap.size h s n ∧  True from ⟨below_step H.out.1 bb, H.out.2.1.below bb,  True.intro⟩)
        clear bb
        first | clear f00 f01 f02 | skip
        rw [HT.out]
        obtain ⟨f00, f01, f02⟩ := cells3 H.out.2.1.ab
        go_wp2_with fail
        refine (sLsAct_any h s n now d _).mono ?_
        rintro e w3 ⟨rfl, bb⟩
        have H := Lib.hid (show Below w.heap.size w w3 ∧ AF3 w3 w1.heap.size h s n ∧  True from ⟨below_step H.out.1 bb, H.out.2.1.below bb,  True.intro⟩)
        clear bb
        first | clear f00 f01 f02 | skip
        rw [HT.out]
        obtain ⟨f00, f01, f02⟩ := cells3 H.out.2.1.ab
        go_wp2_with fail
        refine (sLsAct_any h s n now d _).mono ?_
        rintro e w4 ⟨rfl, bb⟩
        have H := Lib.hid (show Below w.heap.size w w4 ∧ AF3 w4 w1.heap.size h s n ∧  True from ⟨below_step H.out.1 bb, H.out.2.1.below bb,  True.intro⟩)
        clear bb
        first | clear f00 f01 f02 | skip
        rw [HT.out]
        obtain ⟨f00, f01, f02⟩ := cells3 H.out.2.1.ab
        go_wp2
        go_ret
        exact ⟨by first | rfl | simp_all, H.out.1⟩
      · have g3 : decide (d < 0) = false := by simpa using hd
        have hd0 : 0 ≤ d := by omega
        obtain ⟨r0, r1⟩ := mod_in l'.length (m := 20) (by omega)
        have te := tmod_e l'.length 20
        clear hd
        by_cases ht : lAct h s n now d = true
        · have HT := Lib.hid ht
          clear ht
          by_cases he : lExp h s n now d = true
          · have HE := Lib.hid he
            clear he
            have H := Lib.hid (show Below w.heap.size w (w1.alloc (.cells #[.int .i64 h, .int .i64 s, .int .i64 n] 24)) ∧  AF3 (w1.alloc (.cells #[.int .i64 h, .int .i64 s, .int .i64 n] 24)) w1.heap.size h s n ∧ True from ⟨H.out.1.alloc H.out.1.size _,  AF3.new w1 h s n 24, True.intro⟩)
            obtain ⟨f00, f01, f02⟩ := cells3 H.out.2.1.ab
            go_wp2_with fail
            refine (iLsAct_any h s n now d _).mono ?_
            rintro e w2 ⟨rfl, bb⟩
            have H := Lib.hid (show Below w.heap.size w w2 ∧ AF3 w2 w1.heap.size h s n ∧  True from ⟨below_step H.out.1 bb, H.out.2.1.below bb,  True.intro⟩)
            clear bb
            first | clear f00 f01 f02 | skip
            rw [HT.out]
            obtain ⟨f00, f01, f02⟩ := cells3 H.out.2.1.ab
            go_wp2_with fail
            refine (sLsAct_any h s n now d _).mono ?_
            rintro e w3 ⟨rfl, bb⟩
            have H := Lib.hid (show Below w.heap.size w w3 ∧ AF3 w3 w1.heap.size h s n ∧  True from ⟨below_step H.out.1 bb, H.out.2.1.below bb,  True.intro⟩)
            clear bb
            first | clear f00 f01 f02 | skip
            rw [HT.out]
            obtain ⟨f00, f01, f02⟩ := cells3 H.out.2.1.ab
            go_wp2_with fail
            refine (iLsExp_any h s n now d _).mono ?_
            rintro e w4 ⟨rfl, bb⟩
            have H := Lib.hid (show Below w.heap.size w w4 ∧ AF3 w4 w1.heap.size h s n ∧  True from ⟨below_step H.out.1 bb, H.out.2.1.below bb,  True.intro⟩)
            clear bb
            first | clear f00 f01 f02 | skip
            rw [HE.out]
            obtain ⟨f00, f01, f02⟩ := cells3 H.out.2.1.ab
            go_wp2
            go_ret
            exact ⟨by first | rfl | simp_all, H.out.1⟩
          · rw [Bool.not_eq_true] at he
            have HF := Lib.hid (show lExp h s n now (d + (l'.length : Int) % 20) = false by rw [← Bool.not_eq_true]; intro x; rw [exp_less hd0 (by omega) x] at he; cases he)
            have HE := Lib.hid he
            clear he
            have H := Lib.hid (show Below w.heap.size w (w1.alloc (.cells #[.int .i64 h, .int .i64 s, .int .i64 n] 24)) ∧  AF3 (w1.alloc (.cells #[.int .i64 h, .int .i64 s, .int .i64 n] 24)) w1.heap.size h s n ∧ True from ⟨H.out.1.alloc H.out.1.size _,  AF3.new w1 h s n 24, True.intro⟩)
            obtain ⟨f00, f01, f02⟩ := cells3 H.out.2.1.ab
            go_wp2_with fail
            refine (iLsAct_any h s n now d _).mono ?_
            rintro e w2 ⟨rfl, bb⟩
            have H := Lib.hid (show Below w.heap.size w w2 ∧ AF3 w2 w1.heap.size h s n ∧  True from ⟨below_step H.out.1 bb, H.out.2.1.below bb,  True.intro⟩)
            clear bb
            first | clear f00 f01 f02 | skip
            rw [HT.out]
            obtain ⟨f00, f01, f02⟩ := cells3 H.out.2.1.ab
            go_wp2_with fail
            refine (sLsAct_any h s n now d _).mono ?_
            rintro e w3 ⟨rfl, bb⟩
            have H := Lib.hid (show Below w.heap.size w w3 ∧ AF3 w3 w1.heap.size h s n ∧  True from ⟨below_step H.out.1 bb, H.out.2.1.below bb,  True.intro⟩)
            clear bb
            first | clear f00 f01 f02 | skip
            rw [HT.out]
            obtain ⟨f00, f01, f02⟩ := cells3 H.out.2.1.ab
            go_wp2_with fail
            refine (iLsExp_any h s n now d _).mono ?_
            rintro e w4 ⟨rfl, bb⟩
            have H := Lib.hid (show Below w.heap.size w w4 ∧ AF3 w4 w1.heap.size h s n ∧  True from ⟨below_step H.out.1 bb, H.out.2.1.below bb,  True.intro⟩)
            clear bb
            first | clear f00 f01 f02 | skip
            rw [HE.out]
            obtain ⟨f00, f01, f02⟩ := cells3 H.out.2.1.ab
            go_wp2_with fail
            refine (iLsExp_any h s n now _ _).mono ?_
            rintro e w5 ⟨rfl, bb⟩
            have H := Lib.hid (show Below w.heap.size w w5 ∧ AF3 w5 w1.heap.size h s n ∧  True from ⟨below_step H.out.1 bb, H.out.2.1.below bb,  True.intro⟩)
            clear bb
            first | clear f00 f01 f02 | skip
            rw [HF.out]
            go_wp2
            go_ret
            exact ⟨by first | rfl | simp_all, H.out.1⟩
        · rw [Bool.not_eq_true] at ht
          have HA := Lib.hid (show lAct h s n now (d + (l'.length : Int) % 20) = false by rw [← Bool.not_eq_true]; intro x; rw [act_less hd0 (by omega) x] at ht; cases ht)
          have HT := Lib.hid ht
          clear ht
          by_cases he : lExp h s n now d = true
          · have HE := Lib.hid he
            clear he
            have H := Lib.hid (show Below w.heap.size w (w1.alloc (.cells #[.int .i64 h, .int .i64 s, .int .i64 n] 24)) ∧  AF3 (w1.alloc (.cells #[.int .i64 h, .int .i64 s, .int .i64 n] 24)) w1.heap.size h s n ∧ True from ⟨H.out.1.alloc H.out.1.size _,  AF3.new w1 h s n 24, True.intro⟩)
            obtain ⟨f00, f01, f02⟩ := cells3 H.out.2.1.ab
            go_wp2_with fail
            refine (iLsAct_any h s n now d _).mono ?_
            rintro e w2 ⟨rfl, bb⟩
            have H := Lib.hid (show Below w.heap.size w w2 ∧ AF3 w2 w1.heap.size h s n ∧  True from ⟨below_step H.out.1 bb, H.out.2.1.below bb,  True.intro⟩)
            clear bb
            first | clear f00 f01 f02 | skip
            rw [HT.out]
            obtain ⟨f00, f01, f02⟩ := cells3 H.out.2.1.ab
            go_wp2_with fail
            refine (sLsAct_any h s n now d _).mono ?_
            rintro e w3 ⟨rfl, bb⟩
            have H := Lib.hid (show Below w.heap.size w w3 ∧ AF3 w3 w1.heap.size h s n ∧  True from ⟨below_step H.out.1 bb, H.out.2.1.below bb,  True.intro⟩)
            clear bb
            first | clear f00 f01 f02 | skip
            rw [HT.out]
            obtain ⟨f00, f01, f02⟩ := cells3 H.out.2.1.ab
            go_wp2_with fail
            refine (iLsAct_any h s n now _ _).mono ?_
            rintro e w4 ⟨rfl, bb⟩
            have H := Lib.hid (show Below w.heap.size w w4 ∧ AF3 w4 w1.heap.size h s n ∧  True from ⟨below_step H.out.1 bb, H.out.2.1.below bb,  True.intro⟩)
            clear bb
            first | clear f00 f01 f02 | skip
            rw [HA.out]
            obtain ⟨f00, f01, f02⟩ := cells3 H.out.2.1.ab
            go_wp2_with fail
            refine (iLsExp_any h s n now d _).mono ?_
            rintro e w5 ⟨rfl, bb⟩
            have H := Lib.hid (show Below w.heap.size w w5 ∧ AF3 w5 w1.heap.size h s n ∧  True from ⟨below_step H.out.1 bb, H.out.2.1.below bb,  True.intro⟩)
            clear bb
            first | clear f00 f01 f02 | skip
            rw [HE.out]
            obtain ⟨f00, f01, f02⟩ := cells3 H.out.2.1.ab
            go_wp2
            go_ret
            exact ⟨by first | rfl | simp_all, H.out.1⟩
          · rw [Bool.not_eq_true] at he
            have HF := Lib.hid (show lExp h s n now (d + (l'.length : Int) % 20) = false by rw [← Bool.not_eq_true]; intro x; rw [exp_less hd0 (by omega) x] at he; cases he)
            have HE := Lib.hid he
            clear he
            have H := Lib.hid (show Below w.heap.size w (w1.alloc (.cells #[.int .i64 h, .int .i64 s, .int .i64 n] 24)) ∧  AF3 (w1.alloc (.cells #[.int .i64 h, .int .i64 s, .int .i64 n] 24)) w1.heap.size h s n ∧ True from ⟨H.out.1.alloc H.out.1.size _,  AF3.new w1 h s n 24, True.intro⟩)
            obtain ⟨f00, f01, f02⟩ := cells3 H.out.2.1.ab
            go_wp2_with fail
            refine (iLsAct_any h s n now d _).mono ?_
            rintro e w2 ⟨rfl, bb⟩
            have H := Lib.hid (show Below w.heap.size w w2 ∧ AF3 w2 w1.heap.size h s n ∧  True from ⟨below_step H.out.1 bb, H.out.2.1.below bb,  True.intro⟩)
            clear bb
            first | clear f00 f01 f02 | skip
            rw [HT.out]
            obtain ⟨f00, f01, f02⟩ := cells3 H.out.2.1.ab
            go_wp2_with fail
            refine (sLsAct_any h s n now d _).mono ?_
            rintro e w3 ⟨rfl, bb⟩
            have H := Lib.hid (show Below w.heap.size w w3 ∧ AF3 w3 w1.heap.size h s n ∧  True from ⟨below_step H.out.1 bb, H.out.2.1.below bb,  True.intro⟩)
            clear bb
            first | clear f00 f01 f02 | skip
            rw [HT.out]
            obtain ⟨f00, f01, f02⟩ := cells3 H.out.2.1.ab
            go_wp2_with fail
            refine (iLsAct_any h s n now _ _).mono ?_
            rintro e w4 ⟨rfl, bb⟩
            have H := Lib.hid (show Below w.heap.size w w4 ∧ AF3 w4 w1.heap.size h s n ∧  True from ⟨below_step H.out.1 bb, H.out.2.1.below bb,  True.intro⟩)
            clear bb
            first | clear f00 f01 f02 | skip
            rw [HA.out]
            obtain ⟨f00, f01, f02⟩ := cells3 H.out.2.1.ab
            go_wp2_with fail
            refine (iLsExp_any h s n now d _).mono ?_
            rintro e w5 ⟨rfl, bb⟩
            have H := Lib.hid (show Below w.heap.size w w5 ∧ AF3 w5 w1.heap.size h s n ∧  True from ⟨below_step H.out.1 bb, H.out.2.1.below bb,  True.intro⟩)
            clear bb
            first | clear f00 f01 f02 | skip
            rw [HE.out]
            obtain ⟨f00, f01, f02⟩ := cells3 H.out.2.1.ab
            go_wp2_with fail
            refine (iLsExp_any h s n now _ _).mono ?_
            rintro e w6 ⟨rfl, bb⟩
            have H := Lib.hid (show Below w.heap.size w w6 ∧ AF3 w6 w1.heap.size h s n ∧  True from ⟨below_step H.out.1 bb, H.out.2.1.below bb,  True.intro⟩)
            clear bb
            first | clear f00 f01 f02 | skip
            rw [HF.out]
            go_wp2
            go_ret
            exact ⟨by first | rfl | simp_all, H.out.1⟩
    · skip
      go_enter Try.func10, Try.ntmps10
      go_wp2
      go_ret
      exact ⟨rfl, Below.refl _ w⟩
  · skip
    go_enter Try.func10, Try.ntmps10
    go_wp2
    go_ret
    exact ⟨rfl, Below.refl _ w⟩
end Go.Proofs.Ytfagjbbljdgefaa
