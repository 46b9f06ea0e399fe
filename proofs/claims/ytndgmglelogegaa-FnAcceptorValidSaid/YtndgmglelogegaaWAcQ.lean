/- The walk of the law on valid acceptors. -/
import Derived.Test.YtndgmglelogegaaAcpF
namespace Go.Proofs.Ytndgmglelogegaa
open Go.RowKit

set_option maxRecDepth 100000 in
set_option maxHeartbeats 3200000 in
theorem walkAcpValid (A : Option Addr) (c : Nat) (l : List Int) (w : World) (ha : BL w A l) (hc : l.length ≤ c) (hm : l.length ≤ maxLen) (hmc : c ≤ maxLen) :
    Calls Try.prog 9 #[.slice A l.length c] w fun e w' => e = .returned (.bool true) ∧ Below w.heap.size w w' := by
  have hm1 := hm
  unfold maxLen at hm1
  by_cases hl : l.length ≤ 1048576
  · go_enter Try.func9, Try.ntmps9
    go_wp2_with fail
    refine (drawAV_any _ _ _ _ ha hc hm hmc).mono ?_
    rintro e w1 ⟨P, a, v, rfl, B1⟩
    clear ha hm hc hmc
    unfold AVal
    have H := Lib.hid (show Below w.heap.size w w1 ∧ True from ⟨B1, True.intro⟩)
    clear B1
    by_cases q1 : 0 ≤ a
    · by_cases q2 : a ≤ P
      · by_cases q3 : P ≤ 20
        · by_cases q4 : a = 0
          · have q7 : (a == 0) = true := by simpa using q4
            by_cases q5 : v = 0
            · have HR := Lib.hid (show okA P a v = true by simp [okA]; omega)
              have q6 : (v == 0) = true := by simpa using q5
              clear q4 q5
              have H := Lib.hid (show Below w.heap.size w (w1.alloc (.cells #[.int .i64 P, .int .i64 a, .int .i64 v] 24)) ∧  AF3 (w1.alloc (.cells #[.int .i64 P, .int .i64 a, .int .i64 v] 24)) w1.heap.size P a v ∧ True from ⟨H.out.1.alloc H.out.1.size _,  AF3.new w1 P a v 24, True.intro⟩)
              obtain ⟨f00, f01, f02⟩ := cells3 H.out.2.1.ab
              go_wp2_with fail
              refine (impValid_any P a v _).mono ?_
              rintro e w2 ⟨rfl, bb⟩
              have H := Lib.hid (show Below w.heap.size w w2 ∧ AF3 w2 w1.heap.size P a v ∧  True from ⟨below_step H.out.1 bb, H.out.2.1.below bb,  True.intro⟩)
              clear bb
              clear f00 f01 f02
              rw [HR.out]
              obtain ⟨f00, f01, f02⟩ := cells3 H.out.2.1.ab
              go_wp2_with fail
              refine (spcValid_any P a v _).mono ?_
              rintro e w3 ⟨rfl, bb⟩
              have H := Lib.hid (show Below w.heap.size w w3 ∧ AF3 w3 w1.heap.size P a v ∧  True from ⟨below_step H.out.1 bb, H.out.2.1.below bb,  True.intro⟩)
              clear bb
              clear f00 f01 f02
              rw [HR.out]
              obtain ⟨f00, f01, f02⟩ := cells3 H.out.2.1.ab
              go_wp2
              go_ret
              exact ⟨by first | rfl | simp_all, H.out.1⟩
            · have HR := Lib.hid (show okA P a v = false by simp [okA]; omega)
              have q6 : (v == 0) = false := by simpa using q5
              clear q4 q5
              have H := Lib.hid (show Below w.heap.size w (w1.alloc (.cells #[.int .i64 P, .int .i64 a, .int .i64 v] 24)) ∧  AF3 (w1.alloc (.cells #[.int .i64 P, .int .i64 a, .int .i64 v] 24)) w1.heap.size P a v ∧ True from ⟨H.out.1.alloc H.out.1.size _,  AF3.new w1 P a v 24, True.intro⟩)
              obtain ⟨f00, f01, f02⟩ := cells3 H.out.2.1.ab
              go_wp2_with fail
              refine (impValid_any P a v _).mono ?_
              rintro e w2 ⟨rfl, bb⟩
              have H := Lib.hid (show Below w.heap.size w w2 ∧ AF3 w2 w1.heap.size P a v ∧  True from ⟨below_step H.out.1 bb, H.out.2.1.below bb,  True.intro⟩)
              clear bb
              clear f00 f01 f02
              rw [HR.out]
              obtain ⟨f00, f01, f02⟩ := cells3 H.out.2.1.ab
              go_wp2_with fail
              refine (spcValid_any P a v _).mono ?_
              rintro e w3 ⟨rfl, bb⟩
              have H := Lib.hid (show Below w.heap.size w w3 ∧ AF3 w3 w1.heap.size P a v ∧  True from ⟨below_step H.out.1 bb, H.out.2.1.below bb,  True.intro⟩)
              clear bb
              clear f00 f01 f02
              rw [HR.out]
              obtain ⟨f00, f01, f02⟩ := cells3 H.out.2.1.ab
              go_wp2
              go_ret
              exact ⟨by first | rfl | simp_all, H.out.1⟩
          · have q7 : (a == 0) = false := by simpa using q4
            by_cases q5 : 1 ≤ v
            · by_cases q6 : v ≤ 99
              · have HR := Lib.hid (show okA P a v = true by simp [okA]; omega)
                clear q4
                have H := Lib.hid (show Below w.heap.size w (w1.alloc (.cells #[.int .i64 P, .int .i64 a, .int .i64 v] 24)) ∧  AF3 (w1.alloc (.cells #[.int .i64 P, .int .i64 a, .int .i64 v] 24)) w1.heap.size P a v ∧ True from ⟨H.out.1.alloc H.out.1.size _,  AF3.new w1 P a v 24, True.intro⟩)
                obtain ⟨f00, f01, f02⟩ := cells3 H.out.2.1.ab
                go_wp2_with fail
                refine (impValid_any P a v _).mono ?_
                rintro e w2 ⟨rfl, bb⟩
                have H := Lib.hid (show Below w.heap.size w w2 ∧ AF3 w2 w1.heap.size P a v ∧  True from ⟨below_step H.out.1 bb, H.out.2.1.below bb,  True.intro⟩)
                clear bb
                clear f00 f01 f02
                rw [HR.out]
                obtain ⟨f00, f01, f02⟩ := cells3 H.out.2.1.ab
                go_wp2_with fail
                refine (spcValid_any P a v _).mono ?_
                rintro e w3 ⟨rfl, bb⟩
                have H := Lib.hid (show Below w.heap.size w w3 ∧ AF3 w3 w1.heap.size P a v ∧  True from ⟨below_step H.out.1 bb, H.out.2.1.below bb,  True.intro⟩)
                clear bb
                clear f00 f01 f02
                rw [HR.out]
                obtain ⟨f00, f01, f02⟩ := cells3 H.out.2.1.ab
                go_wp2
                go_ret
                exact ⟨by first | rfl | simp_all, H.out.1⟩
              · have HR := Lib.hid (show okA P a v = false by simp [okA]; omega)
                clear q4
                have H := Lib.hid (show Below w.heap.size w (w1.alloc (.cells #[.int .i64 P, .int .i64 a, .int .i64 v] 24)) ∧  AF3 (w1.alloc (.cells #[.int .i64 P, .int .i64 a, .int .i64 v] 24)) w1.heap.size P a v ∧ True from ⟨H.out.1.alloc H.out.1.size _,  AF3.new w1 P a v 24, True.intro⟩)
                obtain ⟨f00, f01, f02⟩ := cells3 H.out.2.1.ab
                go_wp2_with fail
                refine (impValid_any P a v _).mono ?_
                rintro e w2 ⟨rfl, bb⟩
                have H := Lib.hid (show Below w.heap.size w w2 ∧ AF3 w2 w1.heap.size P a v ∧  True from ⟨below_step H.out.1 bb, H.out.2.1.below bb,  True.intro⟩)
                clear bb
                clear f00 f01 f02
                rw [HR.out]
                obtain ⟨f00, f01, f02⟩ := cells3 H.out.2.1.ab
                go_wp2_with fail
                refine (spcValid_any P a v _).mono ?_
                rintro e w3 ⟨rfl, bb⟩
                have H := Lib.hid (show Below w.heap.size w w3 ∧ AF3 w3 w1.heap.size P a v ∧  True from ⟨below_step H.out.1 bb, H.out.2.1.below bb,  True.intro⟩)
                clear bb
                clear f00 f01 f02
                rw [HR.out]
                obtain ⟨f00, f01, f02⟩ := cells3 H.out.2.1.ab
                go_wp2
                go_ret
                exact ⟨by first | rfl | simp_all, H.out.1⟩
            · have HR := Lib.hid (show okA P a v = false by simp [okA]; omega)
              clear q4
              have H := Lib.hid (show Below w.heap.size w (w1.alloc (.cells #[.int .i64 P, .int .i64 a, .int .i64 v] 24)) ∧  AF3 (w1.alloc (.cells #[.int .i64 P, .int .i64 a, .int .i64 v] 24)) w1.heap.size P a v ∧ True from ⟨H.out.1.alloc H.out.1.size _,  AF3.new w1 P a v 24, True.intro⟩)
              obtain ⟨f00, f01, f02⟩ := cells3 H.out.2.1.ab
              go_wp2_with fail
              refine (impValid_any P a v _).mono ?_
              rintro e w2 ⟨rfl, bb⟩
              have H := Lib.hid (show Below w.heap.size w w2 ∧ AF3 w2 w1.heap.size P a v ∧  True from ⟨below_step H.out.1 bb, H.out.2.1.below bb,  True.intro⟩)
              clear bb
              clear f00 f01 f02
              rw [HR.out]
              obtain ⟨f00, f01, f02⟩ := cells3 H.out.2.1.ab
              go_wp2_with fail
              refine (spcValid_any P a v _).mono ?_
              rintro e w3 ⟨rfl, bb⟩
              have H := Lib.hid (show Below w.heap.size w w3 ∧ AF3 w3 w1.heap.size P a v ∧  True from ⟨below_step H.out.1 bb, H.out.2.1.below bb,  True.intro⟩)
              clear bb
              clear f00 f01 f02
              rw [HR.out]
              obtain ⟨f00, f01, f02⟩ := cells3 H.out.2.1.ab
              go_wp2
              go_ret
              exact ⟨by first | rfl | simp_all, H.out.1⟩
        · have HR := Lib.hid (show okA P a v = false by simp [okA]; omega)
          by_cases q8 : a = 0
          · have q9 : (a == 0) = true := by simpa using q8
            clear q8
            have H := Lib.hid (show Below w.heap.size w (w1.alloc (.cells #[.int .i64 P, .int .i64 a, .int .i64 v] 24)) ∧  AF3 (w1.alloc (.cells #[.int .i64 P, .int .i64 a, .int .i64 v] 24)) w1.heap.size P a v ∧ True from ⟨H.out.1.alloc H.out.1.size _,  AF3.new w1 P a v 24, True.intro⟩)
            obtain ⟨f00, f01, f02⟩ := cells3 H.out.2.1.ab
            go_wp2_with fail
            refine (impValid_any P a v _).mono ?_
            rintro e w2 ⟨rfl, bb⟩
            have H := Lib.hid (show Below w.heap.size w w2 ∧ AF3 w2 w1.heap.size P a v ∧  True from ⟨below_step H.out.1 bb, H.out.2.1.below bb,  True.intro⟩)
            clear bb
            clear f00 f01 f02
            rw [HR.out]
            obtain ⟨f00, f01, f02⟩ := cells3 H.out.2.1.ab
            go_wp2_with fail
            refine (spcValid_any P a v _).mono ?_
            rintro e w3 ⟨rfl, bb⟩
            have H := Lib.hid (show Below w.heap.size w w3 ∧ AF3 w3 w1.heap.size P a v ∧  True from ⟨below_step H.out.1 bb, H.out.2.1.below bb,  True.intro⟩)
            clear bb
            clear f00 f01 f02
            rw [HR.out]
            obtain ⟨f00, f01, f02⟩ := cells3 H.out.2.1.ab
            go_wp2
            go_ret
            exact ⟨by first | rfl | simp_all, H.out.1⟩
          · have q9 : (a == 0) = false := by simpa using q8
            clear q8
            have H := Lib.hid (show Below w.heap.size w (w1.alloc (.cells #[.int .i64 P, .int .i64 a, .int .i64 v] 24)) ∧  AF3 (w1.alloc (.cells #[.int .i64 P, .int .i64 a, .int .i64 v] 24)) w1.heap.size P a v ∧ True from ⟨H.out.1.alloc H.out.1.size _,  AF3.new w1 P a v 24, True.intro⟩)
            obtain ⟨f00, f01, f02⟩ := cells3 H.out.2.1.ab
            go_wp2_with fail
            refine (impValid_any P a v _).mono ?_
            rintro e w2 ⟨rfl, bb⟩
            have H := Lib.hid (show Below w.heap.size w w2 ∧ AF3 w2 w1.heap.size P a v ∧  True from ⟨below_step H.out.1 bb, H.out.2.1.below bb,  True.intro⟩)
            clear bb
            clear f00 f01 f02
            rw [HR.out]
            obtain ⟨f00, f01, f02⟩ := cells3 H.out.2.1.ab
            go_wp2_with fail
            refine (spcValid_any P a v _).mono ?_
            rintro e w3 ⟨rfl, bb⟩
            have H := Lib.hid (show Below w.heap.size w w3 ∧ AF3 w3 w1.heap.size P a v ∧  True from ⟨below_step H.out.1 bb, H.out.2.1.below bb,  True.intro⟩)
            clear bb
            clear f00 f01 f02
            rw [HR.out]
            obtain ⟨f00, f01, f02⟩ := cells3 H.out.2.1.ab
            go_wp2
            go_ret
            exact ⟨by first | rfl | simp_all, H.out.1⟩
      · have HR := Lib.hid (show okA P a v = false by simp [okA]; omega)
        by_cases q8 : a = 0
        · have q9 : (a == 0) = true := by simpa using q8
          clear q8
          have H := Lib.hid (show Below w.heap.size w (w1.alloc (.cells #[.int .i64 P, .int .i64 a, .int .i64 v] 24)) ∧  AF3 (w1.alloc (.cells #[.int .i64 P, .int .i64 a, .int .i64 v] 24)) w1.heap.size P a v ∧ True from ⟨H.out.1.alloc H.out.1.size _,  AF3.new w1 P a v 24, True.intro⟩)
          obtain ⟨f00, f01, f02⟩ := cells3 H.out.2.1.ab
          go_wp2_with fail
          refine (impValid_any P a v _).mono ?_
          rintro e w2 ⟨rfl, bb⟩
          have H := Lib.hid (show Below w.heap.size w w2 ∧ AF3 w2 w1.heap.size P a v ∧  True from ⟨below_step H.out.1 bb, H.out.2.1.below bb,  True.intro⟩)
          clear bb
          clear f00 f01 f02
          rw [HR.out]
          obtain ⟨f00, f01, f02⟩ := cells3 H.out.2.1.ab
          go_wp2_with fail
          refine (spcValid_any P a v _).mono ?_
          rintro e w3 ⟨rfl, bb⟩
          have H := Lib.hid (show Below w.heap.size w w3 ∧ AF3 w3 w1.heap.size P a v ∧  True from ⟨below_step H.out.1 bb, H.out.2.1.below bb,  True.intro⟩)
          clear bb
          clear f00 f01 f02
          rw [HR.out]
          obtain ⟨f00, f01, f02⟩ := cells3 H.out.2.1.ab
          go_wp2
          go_ret
          exact ⟨by first | rfl | simp_all, H.out.1⟩
        · have q9 : (a == 0) = false := by simpa using q8
          clear q8
          have H := Lib.hid (show Below w.heap.size w (w1.alloc (.cells #[.int .i64 P, .int .i64 a, .int .i64 v] 24)) ∧  AF3 (w1.alloc (.cells #[.int .i64 P, .int .i64 a, .int .i64 v] 24)) w1.heap.size P a v ∧ True from ⟨H.out.1.alloc H.out.1.size _,  AF3.new w1 P a v 24, True.intro⟩)
          obtain ⟨f00, f01, f02⟩ := cells3 H.out.2.1.ab
          go_wp2_with fail
          refine (impValid_any P a v _).mono ?_
          rintro e w2 ⟨rfl, bb⟩
          have H := Lib.hid (show Below w.heap.size w w2 ∧ AF3 w2 w1.heap.size P a v ∧  True from ⟨below_step H.out.1 bb, H.out.2.1.below bb,  True.intro⟩)
          clear bb
          clear f00 f01 f02
          rw [HR.out]
          obtain ⟨f00, f01, f02⟩ := cells3 H.out.2.1.ab
          go_wp2_with fail
          refine (spcValid_any P a v _).mono ?_
          rintro e w3 ⟨rfl, bb⟩
          have H := Lib.hid (show Below w.heap.size w w3 ∧ AF3 w3 w1.heap.size P a v ∧  True from ⟨below_step H.out.1 bb, H.out.2.1.below bb,  True.intro⟩)
          clear bb
          clear f00 f01 f02
          rw [HR.out]
          obtain ⟨f00, f01, f02⟩ := cells3 H.out.2.1.ab
          go_wp2
          go_ret
          exact ⟨by first | rfl | simp_all, H.out.1⟩
    · have HR := Lib.hid (show okA P a v = false by simp [okA]; omega)
      by_cases q8 : a = 0
      · have q9 : (a == 0) = true := by simpa using q8
        clear q8
        have H := Lib.hid (show Below w.heap.size w (w1.alloc (.cells #[.int .i64 P, .int .i64 a, .int .i64 v] 24)) ∧  AF3 (w1.alloc (.cells #[.int .i64 P, .int .i64 a, .int .i64 v] 24)) w1.heap.size P a v ∧ True from ⟨H.out.1.alloc H.out.1.size _,  AF3.new w1 P a v 24, True.intro⟩)
        obtain ⟨f00, f01, f02⟩ := cells3 H.out.2.1.ab
        go_wp2_with fail
        refine (impValid_any P a v _).mono ?_
        rintro e w2 ⟨rfl, bb⟩
        have H := Lib.hid (show Below w.heap.size w w2 ∧ AF3 w2 w1.heap.size P a v ∧  True from ⟨below_step H.out.1 bb, H.out.2.1.below bb,  True.intro⟩)
        clear bb
        clear f00 f01 f02
        rw [HR.out]
        obtain ⟨f00, f01, f02⟩ := cells3 H.out.2.1.ab
        go_wp2_with fail
        refine (spcValid_any P a v _).mono ?_
        rintro e w3 ⟨rfl, bb⟩
        have H := Lib.hid (show Below w.heap.size w w3 ∧ AF3 w3 w1.heap.size P a v ∧  True from ⟨below_step H.out.1 bb, H.out.2.1.below bb,  True.intro⟩)
        clear bb
        clear f00 f01 f02
        rw [HR.out]
        obtain ⟨f00, f01, f02⟩ := cells3 H.out.2.1.ab
        go_wp2
        go_ret
        exact ⟨by first | rfl | simp_all, H.out.1⟩
      · have q9 : (a == 0) = false := by simpa using q8
        clear q8
        have H := Lib.hid (show Below w.heap.size w (w1.alloc (.cells #[.int .i64 P, .int .i64 a, .int .i64 v] 24)) ∧  AF3 (w1.alloc (.cells #[.int .i64 P, .int .i64 a, .int .i64 v] 24)) w1.heap.size P a v ∧ True from ⟨H.out.1.alloc H.out.1.size _,  AF3.new w1 P a v 24, True.intro⟩)
        obtain ⟨f00, f01, f02⟩ := cells3 H.out.2.1.ab
        go_wp2_with fail
        refine (impValid_any P a v _).mono ?_
        rintro e w2 ⟨rfl, bb⟩
        have H := Lib.hid (show Below w.heap.size w w2 ∧ AF3 w2 w1.heap.size P a v ∧  True from ⟨below_step H.out.1 bb, H.out.2.1.below bb,  True.intro⟩)
        clear bb
        clear f00 f01 f02
        rw [HR.out]
        obtain ⟨f00, f01, f02⟩ := cells3 H.out.2.1.ab
        go_wp2_with fail
        refine (spcValid_any P a v _).mono ?_
        rintro e w3 ⟨rfl, bb⟩
        have H := Lib.hid (show Below w.heap.size w w3 ∧ AF3 w3 w1.heap.size P a v ∧  True from ⟨below_step H.out.1 bb, H.out.2.1.below bb,  True.intro⟩)
        clear bb
        clear f00 f01 f02
        rw [HR.out]
        obtain ⟨f00, f01, f02⟩ := cells3 H.out.2.1.ab
        go_wp2
        go_ret
        exact ⟨by first | rfl | simp_all, H.out.1⟩
  · skip
    go_enter Try.func9, Try.ntmps9
    go_wp2
    go_ret
    exact ⟨rfl, Below.refl _ w⟩
end Go.Proofs.Ytndgmglelogegaa
