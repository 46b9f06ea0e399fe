/- The walk of the law on valid leases. -/
import Derived.Test.YtfagjbbljdgefaaLp
import Derived.Test.YtfagjbbljdgefaaLr
namespace Go.Proofs.Ytfagjbbljdgefaa
open Go.RowKit

set_option maxRecDepth 100000 in
set_option maxHeartbeats 3200000 in
theorem walkLsValid (A : Option Addr) (c : Nat) (l : List Int) (w : World) (ha : BL w A l) (hc : l.length ≤ c) (hm : l.length ≤ maxLen) (hmc : c ≤ maxLen) :
    Calls Try.prog 8 #[.slice A l.length c] w fun e w' => e = .returned (.bool true) ∧ Below w.heap.size w w' := by
  have hm1 := hm
  unfold maxLen at hm1
  by_cases hl : l.length ≤ 1048576
  · go_enter Try.func8, Try.ntmps8
    go_wp2_with fail
    refine (drawLV_any _ _ _ _ ha hc hm hmc).mono ?_
    rintro e w1 ⟨h, s, n, rfl, B1⟩
    clear ha hm hc hmc
    unfold AVal
    have H := Lib.hid (show Below w.heap.size w w1 ∧ True from ⟨B1, True.intro⟩)
    clear B1
    by_cases hz : h = 0
    · have z0 : (h == 0) = true := by simpa using hz
      have en : lsOk h s n = decide (s = 0 ∧ n = 0) := by simp [lsOk, noLs, hz, hlOk]
      by_cases e1 : s = 0
      · have z1 : (s == 0) = true := by simpa using e1
        by_cases e2 : n = 0
        · have z2 : (n == 0) = true := by simpa using e2
          have HT := Lib.hid (show lsOk h s n = true by rw [en]; simp [e1, e2])
          clear en e1 e2 hz
          have H := Lib.hid (show Below w.heap.size w (w1.alloc (.cells #[.int .i64 h, .int .i64 s, .int .i64 n] 24)) ∧  AF3 (w1.alloc (.cells #[.int .i64 h, .int .i64 s, .int .i64 n] 24)) w1.heap.size h s n ∧ True from ⟨H.out.1.alloc H.out.1.size _,  AF3.new w1 h s n 24, True.intro⟩)
          obtain ⟨f00, f01, f02⟩ := cells3 H.out.2.1.ab
          go_wp2_with fail
          refine (iLsValid_any h s n _).mono ?_
          rintro e w2 ⟨rfl, bb⟩
          have H := Lib.hid (show Below w.heap.size w w2 ∧ AF3 w2 w1.heap.size h s n ∧  True from ⟨below_step H.out.1 bb, H.out.2.1.below bb,  True.intro⟩)
          clear bb
          first | clear f00 f01 f02 | skip
          rw [HT.out]
          obtain ⟨f00, f01, f02⟩ := cells3 H.out.2.1.ab
          go_wp2_with fail
          refine (sLsValid_any h s n _).mono ?_
          rintro e w3 ⟨rfl, bb⟩
          have H := Lib.hid (show Below w.heap.size w w3 ∧ AF3 w3 w1.heap.size h s n ∧  True from ⟨below_step H.out.1 bb, H.out.2.1.below bb,  True.intro⟩)
          clear bb
          first | clear f00 f01 f02 | skip
          rw [HT.out]
          obtain ⟨f00, f01, f02⟩ := cells3 H.out.2.1.ab
          go_wp2
          go_ret
          exact ⟨by first | rfl | simp_all, H.out.1⟩
        · have z2 : (n == 0) = false := by simpa using e2
          have HT := Lib.hid (show lsOk h s n = false by rw [en]; simp [e2])
          clear en e1 e2 hz
          have H := Lib.hid (show Below w.heap.size w (w1.alloc (.cells #[.int .i64 h, .int .i64 s, .int .i64 n] 24)) ∧  AF3 (w1.alloc (.cells #[.int .i64 h, .int .i64 s, .int .i64 n] 24)) w1.heap.size h s n ∧ True from ⟨H.out.1.alloc H.out.1.size _,  AF3.new w1 h s n 24, True.intro⟩)
          obtain ⟨f00, f01, f02⟩ := cells3 H.out.2.1.ab
          go_wp2_with fail
          refine (iLsValid_any h s n _).mono ?_
          rintro e w2 ⟨rfl, bb⟩
          have H := Lib.hid (show Below w.heap.size w w2 ∧ AF3 w2 w1.heap.size h s n ∧  True from ⟨below_step H.out.1 bb, H.out.2.1.below bb,  True.intro⟩)
          clear bb
          first | clear f00 f01 f02 | skip
          rw [HT.out]
          obtain ⟨f00, f01, f02⟩ := cells3 H.out.2.1.ab
          go_wp2_with fail
          refine (sLsValid_any h s n _).mono ?_
          rintro e w3 ⟨rfl, bb⟩
          have H := Lib.hid (show Below w.heap.size w w3 ∧ AF3 w3 w1.heap.size h s n ∧  True from ⟨below_step H.out.1 bb, H.out.2.1.below bb,  True.intro⟩)
          clear bb
          first | clear f00 f01 f02 | skip
          rw [HT.out]
          obtain ⟨f00, f01, f02⟩ := cells3 H.out.2.1.ab
          go_wp2
          go_ret
          exact ⟨by first | rfl | simp_all, H.out.1⟩
      · have z1 : (s == 0) = false := by simpa using e1
        have HT := Lib.hid (show lsOk h s n = false by rw [en]; simp [e1])
        clear en e1 hz
        have H := Lib.hid (show Below w.heap.size w (w1.alloc (.cells #[.int .i64 h, .int .i64 s, .int .i64 n] 24)) ∧  AF3 (w1.alloc (.cells #[.int .i64 h, .int .i64 s, .int .i64 n] 24)) w1.heap.size h s n ∧ True from ⟨H.out.1.alloc H.out.1.size _,  AF3.new w1 h s n 24, True.intro⟩)
        obtain ⟨f00, f01, f02⟩ := cells3 H.out.2.1.ab
        go_wp2_with fail
        refine (iLsValid_any h s n _).mono ?_
        rintro e w2 ⟨rfl, bb⟩
        have H := Lib.hid (show Below w.heap.size w w2 ∧ AF3 w2 w1.heap.size h s n ∧  True from ⟨below_step H.out.1 bb, H.out.2.1.below bb,  True.intro⟩)
        clear bb
        first | clear f00 f01 f02 | skip
        rw [HT.out]
        obtain ⟨f00, f01, f02⟩ := cells3 H.out.2.1.ab
        go_wp2_with fail
        refine (sLsValid_any h s n _).mono ?_
        rintro e w3 ⟨rfl, bb⟩
        have H := Lib.hid (show Below w.heap.size w w3 ∧ AF3 w3 w1.heap.size h s n ∧  True from ⟨below_step H.out.1 bb, H.out.2.1.below bb,  True.intro⟩)
        clear bb
        first | clear f00 f01 f02 | skip
        rw [HT.out]
        obtain ⟨f00, f01, f02⟩ := cells3 H.out.2.1.ab
        go_wp2
        go_ret
        exact ⟨by first | rfl | simp_all, H.out.1⟩
    · have z0 : (h == 0) = false := by simpa using hz
      have el : lsOk h s n = hlOk h s n := by simp [lsOk, noLs, hz]
      have HZ := Lib.hid (show lsOk 0 0 0 = true from rfl)
      clear hz
      by_cases q0 : 1 ≤ h
      · have a0 : decide (1 ≤ h) = true := by simpa using q0
        by_cases q1 : h ≤ 6
        · have a1 : decide (h ≤ 6) = true := by simpa using q1
          by_cases q2 : 0 ≤ s
          · have a2 : decide (0 ≤ s) = true := by simpa using q2
            by_cases q3 : s ≤ 999
            · have a3 : decide (s ≤ 999) = true := by simpa using q3
              by_cases q4 : 1 ≤ n
              · have a4 : decide (1 ≤ n) = true := by simpa using q4
                by_cases q5 : n ≤ 999
                · have a5 : decide (n ≤ 999) = true := by simpa using q5
                  have HT := Lib.hid (show lsOk h s n = true by rw [el]; simp [hlOk]; omega)
                  clear el q0 q1 q2 q3 q4 q5
                  have H := Lib.hid (show Below w.heap.size w (w1.alloc (.cells #[.int .i64 h, .int .i64 s, .int .i64 n] 24)) ∧  AF3 (w1.alloc (.cells #[.int .i64 h, .int .i64 s, .int .i64 n] 24)) w1.heap.size h s n ∧ True from ⟨H.out.1.alloc H.out.1.size _,  AF3.new w1 h s n 24, True.intro⟩)
                  obtain ⟨f00, f01, f02⟩ := cells3 H.out.2.1.ab
                  go_wp2_with fail
                  refine (iLsValid_any h s n _).mono ?_
                  rintro e w2 ⟨rfl, bb⟩
                  have H := Lib.hid (show Below w.heap.size w w2 ∧ AF3 w2 w1.heap.size h s n ∧  True from ⟨below_step H.out.1 bb, H.out.2.1.below bb,  True.intro⟩)
                  clear bb
                  first | clear f00 f01 f02 | skip
                  rw [HT.out]
                  obtain ⟨f00, f01, f02⟩ := cells3 H.out.2.1.ab
                  go_wp2_with fail
                  refine (sLsValid_any h s n _).mono ?_
                  rintro e w3 ⟨rfl, bb⟩
                  have H := Lib.hid (show Below w.heap.size w w3 ∧ AF3 w3 w1.heap.size h s n ∧  True from ⟨below_step H.out.1 bb, H.out.2.1.below bb,  True.intro⟩)
                  clear bb
                  first | clear f00 f01 f02 | skip
                  rw [HT.out]
                  obtain ⟨f00, f01, f02⟩ := cells3 H.out.2.1.ab
                  go_wp2_with fail
                  refine (iLsValid_any 0 0 0 _).mono ?_
                  rintro e w4 ⟨rfl, bb⟩
                  have H := Lib.hid (show Below w.heap.size w w4 ∧ AF3 w4 w1.heap.size h s n ∧  True from ⟨below_step H.out.1 bb, H.out.2.1.below bb,  True.intro⟩)
                  clear bb
                  first | clear f00 f01 f02 | skip
                  rw [HZ.out]
                  go_wp2
                  go_ret
                  exact ⟨by first | rfl | simp_all, H.out.1⟩
                · have a5 : decide (n ≤ 999) = false := by simpa using q5
                  have HT := Lib.hid (show lsOk h s n = false by rw [el]; simp [hlOk]; omega)
                  clear el q0 q1 q2 q3 q4 q5
                  have H := Lib.hid (show Below w.heap.size w (w1.alloc (.cells #[.int .i64 h, .int .i64 s, .int .i64 n] 24)) ∧  AF3 (w1.alloc (.cells #[.int .i64 h, .int .i64 s, .int .i64 n] 24)) w1.heap.size h s n ∧ True from ⟨H.out.1.alloc H.out.1.size _,  AF3.new w1 h s n 24, True.intro⟩)
                  obtain ⟨f00, f01, f02⟩ := cells3 H.out.2.1.ab
                  go_wp2_with fail
                  refine (iLsValid_any h s n _).mono ?_
                  rintro e w2 ⟨rfl, bb⟩
                  have H := Lib.hid (show Below w.heap.size w w2 ∧ AF3 w2 w1.heap.size h s n ∧  True from ⟨below_step H.out.1 bb, H.out.2.1.below bb,  True.intro⟩)
                  clear bb
                  first | clear f00 f01 f02 | skip
                  rw [HT.out]
                  obtain ⟨f00, f01, f02⟩ := cells3 H.out.2.1.ab
                  go_wp2_with fail
                  refine (sLsValid_any h s n _).mono ?_
                  rintro e w3 ⟨rfl, bb⟩
                  have H := Lib.hid (show Below w.heap.size w w3 ∧ AF3 w3 w1.heap.size h s n ∧  True from ⟨below_step H.out.1 bb, H.out.2.1.below bb,  True.intro⟩)
                  clear bb
                  first | clear f00 f01 f02 | skip
                  rw [HT.out]
                  obtain ⟨f00, f01, f02⟩ := cells3 H.out.2.1.ab
                  go_wp2_with fail
                  refine (iLsValid_any 0 0 0 _).mono ?_
                  rintro e w4 ⟨rfl, bb⟩
                  have H := Lib.hid (show Below w.heap.size w w4 ∧ AF3 w4 w1.heap.size h s n ∧  True from ⟨below_step H.out.1 bb, H.out.2.1.below bb,  True.intro⟩)
                  clear bb
                  first | clear f00 f01 f02 | skip
                  rw [HZ.out]
                  go_wp2
                  go_ret
                  exact ⟨by first | rfl | simp_all, H.out.1⟩
              · have a4 : decide (1 ≤ n) = false := by simpa using q4
                have HT := Lib.hid (show lsOk h s n = false by rw [el]; simp [hlOk]; omega)
                clear el q0 q1 q2 q3 q4
                have H := Lib.hid (show Below w.heap.size w (w1.alloc (.cells #[.int .i64 h, .int .i64 s, .int .i64 n] 24)) ∧  AF3 (w1.alloc (.cells #[.int .i64 h, .int .i64 s, .int .i64 n] 24)) w1.heap.size h s n ∧ True from ⟨H.out.1.alloc H.out.1.size _,  AF3.new w1 h s n 24, True.intro⟩)
                obtain ⟨f00, f01, f02⟩ := cells3 H.out.2.1.ab
                go_wp2_with fail
                refine (iLsValid_any h s n _).mono ?_
                rintro e w2 ⟨rfl, bb⟩
                have H := Lib.hid (show Below w.heap.size w w2 ∧ AF3 w2 w1.heap.size h s n ∧  True from ⟨below_step H.out.1 bb, H.out.2.1.below bb,  True.intro⟩)
                clear bb
                first | clear f00 f01 f02 | skip
                rw [HT.out]
                obtain ⟨f00, f01, f02⟩ := cells3 H.out.2.1.ab
                go_wp2_with fail
                refine (sLsValid_any h s n _).mono ?_
                rintro e w3 ⟨rfl, bb⟩
                have H := Lib.hid (show Below w.heap.size w w3 ∧ AF3 w3 w1.heap.size h s n ∧  True from ⟨below_step H.out.1 bb, H.out.2.1.below bb,  True.intro⟩)
                clear bb
                first | clear f00 f01 f02 | skip
                rw [HT.out]
                obtain ⟨f00, f01, f02⟩ := cells3 H.out.2.1.ab
                go_wp2_with fail
                refine (iLsValid_any 0 0 0 _).mono ?_
                rintro e w4 ⟨rfl, bb⟩
                have H := Lib.hid (show Below w.heap.size w w4 ∧ AF3 w4 w1.heap.size h s n ∧  True from ⟨below_step H.out.1 bb, H.out.2.1.below bb,  True.intro⟩)
                clear bb
                first | clear f00 f01 f02 | skip
                rw [HZ.out]
                go_wp2
                go_ret
                exact ⟨by first | rfl | simp_all, H.out.1⟩
            · have a3 : decide (s ≤ 999) = false := by simpa using q3
              have HT := Lib.hid (show lsOk h s n = false by rw [el]; simp [hlOk]; omega)
              clear el q0 q1 q2 q3
              have H := Lib.hid (show Below w.heap.size w (w1.alloc (.cells #[.int .i64 h, .int .i64 s, .int .i64 n] 24)) ∧  AF3 (w1.alloc (.cells #[.int .i64 h, .int .i64 s, .int .i64 n] 24)) w1.heap.size h s n ∧ True from ⟨H.out.1.alloc H.out.1.size _,  AF3.new w1 h s n 24, True.intro⟩)
              obtain ⟨f00, f01, f02⟩ := cells3 H.out.2.1.ab
              go_wp2_with fail
              refine (iLsValid_any h s n _).mono ?_
              rintro e w2 ⟨rfl, bb⟩
              have H := Lib.hid (show Below w.heap.size w w2 ∧ AF3 w2 w1.heap.size h s n ∧  True from ⟨below_step H.out.1 bb, H.out.2.1.below bb,  True.intro⟩)
              clear bb
              first | clear f00 f01 f02 | skip
              rw [HT.out]
              obtain ⟨f00, f01, f02⟩ := cells3 H.out.2.1.ab
              go_wp2_with fail
              refine (sLsValid_any h s n _).mono ?_
              rintro e w3 ⟨rfl, bb⟩
              have H := Lib.hid (show Below w.heap.size w w3 ∧ AF3 w3 w1.heap.size h s n ∧  True from ⟨below_step H.out.1 bb, H.out.2.1.below bb,  True.intro⟩)
              clear bb
              first | clear f00 f01 f02 | skip
              rw [HT.out]
              obtain ⟨f00, f01, f02⟩ := cells3 H.out.2.1.ab
              go_wp2_with fail
              refine (iLsValid_any 0 0 0 _).mono ?_
              rintro e w4 ⟨rfl, bb⟩
              have H := Lib.hid (show Below w.heap.size w w4 ∧ AF3 w4 w1.heap.size h s n ∧  True from ⟨below_step H.out.1 bb, H.out.2.1.below bb,  True.intro⟩)
              clear bb
              first | clear f00 f01 f02 | skip
              rw [HZ.out]
              go_wp2
              go_ret
              exact ⟨by first | rfl | simp_all, H.out.1⟩
          · have a2 : decide (0 ≤ s) = false := by simpa using q2
            have HT := Lib.hid (show lsOk h s n = false by rw [el]; simp [hlOk]; omega)
            clear el q0 q1 q2
            have H := Lib.hid (show Below w.heap.size w (w1.alloc (.cells #[.int .i64 h, .int .i64 s, .int .i64 n] 24)) ∧  AF3 (w1.alloc (.cells #[.int .i64 h, .int .i64 s, .int .i64 n] 24)) w1.heap.size h s n ∧ True from ⟨H.out.1.alloc H.out.1.size _,  AF3.new w1 h s n 24, True.intro⟩)
            obtain ⟨f00, f01, f02⟩ := cells3 H.out.2.1.ab
            go_wp2_with fail
            refine (iLsValid_any h s n _).mono ?_
            rintro e w2 ⟨rfl, bb⟩
            have H := Lib.hid (show Below w.heap.size w w2 ∧ AF3 w2 w1.heap.size h s n ∧  True from ⟨below_step H.out.1 bb, H.out.2.1.below bb,  True.intro⟩)
            clear bb
            first | clear f00 f01 f02 | skip
            rw [HT.out]
            obtain ⟨f00, f01, f02⟩ := cells3 H.out.2.1.ab
            go_wp2_with fail
            refine (sLsValid_any h s n _).mono ?_
            rintro e w3 ⟨rfl, bb⟩
            have H := Lib.hid (show Below w.heap.size w w3 ∧ AF3 w3 w1.heap.size h s n ∧  True from ⟨below_step H.out.1 bb, H.out.2.1.below bb,  True.intro⟩)
            clear bb
            first | clear f00 f01 f02 | skip
            rw [HT.out]
            obtain ⟨f00, f01, f02⟩ := cells3 H.out.2.1.ab
            go_wp2_with fail
            refine (iLsValid_any 0 0 0 _).mono ?_
            rintro e w4 ⟨rfl, bb⟩
            have H := Lib.hid (show Below w.heap.size w w4 ∧ AF3 w4 w1.heap.size h s n ∧  True from ⟨below_step H.out.1 bb, H.out.2.1.below bb,  True.intro⟩)
            clear bb
            first | clear f00 f01 f02 | skip
            rw [HZ.out]
            go_wp2
            go_ret
            exact ⟨by first | rfl | simp_all, H.out.1⟩
        · have a1 : decide (h ≤ 6) = false := by simpa using q1
          have HT := Lib.hid (show lsOk h s n = false by rw [el]; simp [hlOk]; omega)
          clear el q0 q1
          have H := Lib.hid (show Below w.heap.size w (w1.alloc (.cells #[.int .i64 h, .int .i64 s, .int .i64 n] 24)) ∧  AF3 (w1.alloc (.cells #[.int .i64 h, .int .i64 s, .int .i64 n] 24)) w1.heap.size h s n ∧ True from ⟨H.out.1.alloc H.out.1.size _,  AF3.new w1 h s n 24, True.intro⟩)
          obtain ⟨f00, f01, f02⟩ := cells3 H.out.2.1.ab
          go_wp2_with fail
          refine (iLsValid_any h s n _).mono ?_
          rintro e w2 ⟨rfl, bb⟩
          have H := Lib.hid (show Below w.heap.size w w2 ∧ AF3 w2 w1.heap.size h s n ∧  True from ⟨below_step H.out.1 bb, H.out.2.1.below bb,  True.intro⟩)
          clear bb
          first | clear f00 f01 f02 | skip
          rw [HT.out]
          obtain ⟨f00, f01, f02⟩ := cells3 H.out.2.1.ab
          go_wp2_with fail
          refine (sLsValid_any h s n _).mono ?_
          rintro e w3 ⟨rfl, bb⟩
          have H := Lib.hid (show Below w.heap.size w w3 ∧ AF3 w3 w1.heap.size h s n ∧  True from ⟨below_step H.out.1 bb, H.out.2.1.below bb,  True.intro⟩)
          clear bb
          first | clear f00 f01 f02 | skip
          rw [HT.out]
          obtain ⟨f00, f01, f02⟩ := cells3 H.out.2.1.ab
          go_wp2_with fail
          refine (iLsValid_any 0 0 0 _).mono ?_
          rintro e w4 ⟨rfl, bb⟩
          have H := Lib.hid (show Below w.heap.size w w4 ∧ AF3 w4 w1.heap.size h s n ∧  True from ⟨below_step H.out.1 bb, H.out.2.1.below bb,  True.intro⟩)
          clear bb
          first | clear f00 f01 f02 | skip
          rw [HZ.out]
          go_wp2
          go_ret
          exact ⟨by first | rfl | simp_all, H.out.1⟩
      · have a0 : decide (1 ≤ h) = false := by simpa using q0
        have HT := Lib.hid (show lsOk h s n = false by rw [el]; simp [hlOk]; omega)
        clear el q0
        have H := Lib.hid (show Below w.heap.size w (w1.alloc (.cells #[.int .i64 h, .int .i64 s, .int .i64 n] 24)) ∧  AF3 (w1.alloc (.cells #[.int .i64 h, .int .i64 s, .int .i64 n] 24)) w1.heap.size h s n ∧ True from ⟨H.out.1.alloc H.out.1.size _,  AF3.new w1 h s n 24, True.intro⟩)
        obtain ⟨f00, f01, f02⟩ := cells3 H.out.2.1.ab
        go_wp2_with fail
        refine (iLsValid_any h s n _).mono ?_
        rintro e w2 ⟨rfl, bb⟩
        have H := Lib.hid (show Below w.heap.size w w2 ∧ AF3 w2 w1.heap.size h s n ∧  True from ⟨below_step H.out.1 bb, H.out.2.1.below bb,  True.intro⟩)
        clear bb
        first | clear f00 f01 f02 | skip
        rw [HT.out]
        obtain ⟨f00, f01, f02⟩ := cells3 H.out.2.1.ab
        go_wp2_with fail
        refine (sLsValid_any h s n _).mono ?_
        rintro e w3 ⟨rfl, bb⟩
        have H := Lib.hid (show Below w.heap.size w w3 ∧ AF3 w3 w1.heap.size h s n ∧  True from ⟨below_step H.out.1 bb, H.out.2.1.below bb,  True.intro⟩)
        clear bb
        first | clear f00 f01 f02 | skip
        rw [HT.out]
        obtain ⟨f00, f01, f02⟩ := cells3 H.out.2.1.ab
        go_wp2_with fail
        refine (iLsValid_any 0 0 0 _).mono ?_
        rintro e w4 ⟨rfl, bb⟩
        have H := Lib.hid (show Below w.heap.size w w4 ∧ AF3 w4 w1.heap.size h s n ∧  True from ⟨below_step H.out.1 bb, H.out.2.1.below bb,  True.intro⟩)
        clear bb
        first | clear f00 f01 f02 | skip
        rw [HZ.out]
        go_wp2
        go_ret
        exact ⟨by first | rfl | simp_all, H.out.1⟩
  · skip
    go_enter Try.func8, Try.ntmps8
    go_wp2
    go_ret
    exact ⟨rfl, Below.refl _ w⟩
end Go.Proofs.Ytfagjbbljdgefaa
