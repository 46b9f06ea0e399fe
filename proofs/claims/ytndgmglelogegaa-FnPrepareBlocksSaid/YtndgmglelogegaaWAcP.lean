/- The walks of the laws on one acceptor. -/
import Derived.Test.YtndgmglelogegaaAcpF
namespace Go.Proofs.Ytndgmglelogegaa
open Go.RowKit

theorem prep_no {P a v b : Int} (h : okA P a v = false ∨ okB b = false) : aPrep (P, a, v) b = ((0, 0, 0), false) := by
  rcases h with h | h <;> simp [aPrep, Ac.ok, h]
theorem prep_low {P a v b : Int} (h : okA P a v = true) (hb : okB b = true) (hp : b ≤ P) : aPrep (P, a, v) b = ((P, a, v), false) := by simp [aPrep, Ac.ok, h, hb, prepA, hp]
theorem prep_high {P a v b : Int} (h : okA P a v = true) (hb : okB b = true) (hp : ¬ b ≤ P) : aPrep (P, a, v) b = ((b, a, v), true) := by simp [aPrep, Ac.ok, h, hb, prepA, hp]
theorem okA_up {P a v b : Int} (h : okA P a v = true) (hb : okB b = true) (hp : ¬ b ≤ P) : okA b a v = true := by simp [okA, okB] at *; omega
theorem acc_no {P a v b c : Int} (h : okA P a v = false ∨ okB b = false ∨ okV c = false) : aAcc (P, a, v) b c = ((0, 0, 0), false) := by
  rcases h with h | h | h <;> simp [aAcc, Ac.ok, h]
theorem acc_low {P a v b c : Int} (h : okA P a v = true) (hb : okB b = true) (hv : okV c = true) (hp : b < P) : aAcc (P, a, v) b c = ((P, a, v), false) := by simp [aAcc, Ac.ok, h, hb, hv, acceA, hp]
theorem acc_high {P a v b c : Int} (h : okA P a v = true) (hb : okB b = true) (hv : okV c = true) (hp : ¬ b < P) : aAcc (P, a, v) b c = ((b, b, c), true) := by simp [aAcc, Ac.ok, h, hb, hv, acceA, hp]
theorem okA_bb {b c : Int} (hb : okB b = true) (hv : okV c = true) : okA b b c = true := by simp [okA, okB, okV] at *; omega
theorem okB_no {b : Int} (h : okB b = false) : b < 1 ∨ (1 ≤ b ∧ 20 < b) := by simp [okB] at h; omega
theorem okB_yes {b : Int} (h : okB b = true) : 1 ≤ b ∧ b ≤ 20 := by simpa [okB] using h
theorem okV_no {b : Int} (h : okV b = false) : b < 1 ∨ (1 ≤ b ∧ 99 < b) := by simp [okV] at h; omega
theorem okV_yes {b : Int} (h : okV b = true) : 1 ≤ b ∧ b ≤ 99 := by simpa [okV] using h

set_option maxRecDepth 100000 in
set_option maxHeartbeats 3200000 in
theorem walkPrepState (A : Option Addr) (c : Nat) (l : List Int) (w : World) (ha : BL w A l) (hc : l.length ≤ c) (hm : l.length ≤ maxLen) (hmc : c ≤ maxLen) :
    Calls Try.prog 3 #[.slice A l.length c] w fun e w' => e = .returned (.bool true) ∧ Below w.heap.size w w' := by
  have hm1 := hm
  unfold maxLen at hm1
  by_cases hl : l.length ≤ 1048576
  · go_enter Try.func3, Try.ntmps3
    go_wp2_with fail
    refine (drawAP_any _ _ _ _ ha hc hm hmc).mono ?_
    rintro e w1 ⟨P, a, v, b, hb0, hb21, rfl, B1⟩
    clear ha hm hc hmc
    unfold AVal
    have H := Lib.hid (show Below w.heap.size w w1 ∧ True from ⟨B1, True.intro⟩)
    clear B1
    by_cases ho : okA P a v = true
    · by_cases hb : okB b = true
      · obtain ⟨hb1, hb2⟩ := okB_yes hb
        by_cases hp : b ≤ P
        · have HR := Lib.hid (prep_low ho hb hp)
          have H := Lib.hid (show Below w.heap.size w (w1.alloc (.cells #[.int .i64 P, .int .i64 a, .int .i64 v] 24)) ∧  AF3 (w1.alloc (.cells #[.int .i64 P, .int .i64 a, .int .i64 v] 24)) w1.heap.size P a v ∧ True from ⟨H.out.1.alloc H.out.1.size _,  AF3.new w1 P a v 24, True.intro⟩)
          obtain ⟨f00, f01, f02⟩ := cells3 H.out.2.1.ab
          go_wp2_with fail
          refine (sAPrep_any P a v b _).mono ?_
          rintro e w2 ⟨rfl, bb⟩
          have H := Lib.hid (show Below w.heap.size w w2 ∧ AF3 w2 w1.heap.size P a v ∧  True from ⟨below_step H.out.1 bb, H.out.2.1.below bb,  True.intro⟩)
          clear bb
          clear f00 f01 f02
          rw [HR.out]
          simp only [Ac.val, AVal]
          have H := Lib.hid (show Below w.heap.size w (w2.alloc (.cells #[.int .i64 P, .int .i64 a, .int .i64 v] 24)) ∧ AF3 (w2.alloc (.cells #[.int .i64 P, .int .i64 a, .int .i64 v] 24)) w1.heap.size P a v ∧  AF3 (w2.alloc (.cells #[.int .i64 P, .int .i64 a, .int .i64 v] 24)) w2.heap.size P a v ∧ True from ⟨H.out.1.alloc H.out.1.size _, H.out.2.1.alloc _,  AF3.new w2 P a v 24, True.intro⟩)
          obtain ⟨f00, f01, f02⟩ := cells3 H.out.2.1.ab
          obtain ⟨f10, f11, f12⟩ := cells3 H.out.2.2.1.ab
          go_wp2_with fail
          refine (iAPrep_any P a v b _).mono ?_
          rintro e w3 ⟨rfl, bb⟩
          have H := Lib.hid (show Below w.heap.size w w3 ∧ AF3 w3 w1.heap.size P a v ∧ AF3 w3 w2.heap.size P a v ∧  True from ⟨below_step H.out.1 bb, H.out.2.1.below bb, H.out.2.2.1.below bb,  True.intro⟩)
          clear bb
          clear f00 f01 f02 f10 f11 f12
          rw [HR.out]
          simp only [Ac.val, AVal]
          have H := Lib.hid (show Below w.heap.size w (w3.alloc (.cells #[.int .i64 P, .int .i64 a, .int .i64 v] 24)) ∧ AF3 (w3.alloc (.cells #[.int .i64 P, .int .i64 a, .int .i64 v] 24)) w1.heap.size P a v ∧ AF3 (w3.alloc (.cells #[.int .i64 P, .int .i64 a, .int .i64 v] 24)) w2.heap.size P a v ∧  AF3 (w3.alloc (.cells #[.int .i64 P, .int .i64 a, .int .i64 v] 24)) w3.heap.size P a v ∧ True from ⟨H.out.1.alloc H.out.1.size _, H.out.2.1.alloc _, H.out.2.2.1.alloc _,  AF3.new w3 P a v 24, True.intro⟩)
          obtain ⟨f00, f01, f02⟩ := cells3 H.out.2.1.ab
          obtain ⟨f10, f11, f12⟩ := cells3 H.out.2.2.1.ab
          obtain ⟨f20, f21, f22⟩ := cells3 H.out.2.2.2.1.ab
          go_wp2_with fail
          refine (spcValid_any P a v _).mono ?_
          rintro e w4 ⟨rfl, bb⟩
          have H := Lib.hid (show Below w.heap.size w w4 ∧ AF3 w4 w1.heap.size P a v ∧ AF3 w4 w2.heap.size P a v ∧ AF3 w4 w3.heap.size P a v ∧  True from ⟨below_step H.out.1 bb, H.out.2.1.below bb, H.out.2.2.1.below bb, H.out.2.2.2.1.below bb,  True.intro⟩)
          clear bb
          clear f00 f01 f02 f10 f11 f12 f20 f21 f22
          rw [ho]
          obtain ⟨f00, f01, f02⟩ := cells3 H.out.2.1.ab
          obtain ⟨f10, f11, f12⟩ := cells3 H.out.2.2.1.ab
          obtain ⟨f20, f21, f22⟩ := cells3 H.out.2.2.2.1.ab
          go_wp2
          go_ret
          exact ⟨rfl, H.out.1⟩
        · have HR := Lib.hid (prep_high ho hb hp)
          have HS := Lib.hid (And.intro (prep_low (okA_up ho hb hp) hb (Int.le_refl b)) (okA_up ho hb hp))
          have hp' : P < b := by omega
          have H := Lib.hid (show Below w.heap.size w (w1.alloc (.cells #[.int .i64 P, .int .i64 a, .int .i64 v] 24)) ∧  AF3 (w1.alloc (.cells #[.int .i64 P, .int .i64 a, .int .i64 v] 24)) w1.heap.size P a v ∧ True from ⟨H.out.1.alloc H.out.1.size _,  AF3.new w1 P a v 24, True.intro⟩)
          obtain ⟨f00, f01, f02⟩ := cells3 H.out.2.1.ab
          go_wp2_with fail
          refine (sAPrep_any P a v b _).mono ?_
          rintro e w2 ⟨rfl, bb⟩
          have H := Lib.hid (show Below w.heap.size w w2 ∧ AF3 w2 w1.heap.size P a v ∧  True from ⟨below_step H.out.1 bb, H.out.2.1.below bb,  True.intro⟩)
          clear bb
          clear f00 f01 f02
          rw [HR.out]
          simp only [Ac.val, AVal]
          have H := Lib.hid (show Below w.heap.size w (w2.alloc (.cells #[.int .i64 b, .int .i64 a, .int .i64 v] 24)) ∧ AF3 (w2.alloc (.cells #[.int .i64 b, .int .i64 a, .int .i64 v] 24)) w1.heap.size P a v ∧  AF3 (w2.alloc (.cells #[.int .i64 b, .int .i64 a, .int .i64 v] 24)) w2.heap.size b a v ∧ True from ⟨H.out.1.alloc H.out.1.size _, H.out.2.1.alloc _,  AF3.new w2 b a v 24, True.intro⟩)
          obtain ⟨f00, f01, f02⟩ := cells3 H.out.2.1.ab
          obtain ⟨f10, f11, f12⟩ := cells3 H.out.2.2.1.ab
          go_wp2_with fail
          refine (iAPrep_any P a v b _).mono ?_
          rintro e w3 ⟨rfl, bb⟩
          have H := Lib.hid (show Below w.heap.size w w3 ∧ AF3 w3 w1.heap.size P a v ∧ AF3 w3 w2.heap.size b a v ∧  True from ⟨below_step H.out.1 bb, H.out.2.1.below bb, H.out.2.2.1.below bb,  True.intro⟩)
          clear bb
          clear f00 f01 f02 f10 f11 f12
          rw [HR.out]
          simp only [Ac.val, AVal]
          have H := Lib.hid (show Below w.heap.size w (w3.alloc (.cells #[.int .i64 b, .int .i64 a, .int .i64 v] 24)) ∧ AF3 (w3.alloc (.cells #[.int .i64 b, .int .i64 a, .int .i64 v] 24)) w1.heap.size P a v ∧ AF3 (w3.alloc (.cells #[.int .i64 b, .int .i64 a, .int .i64 v] 24)) w2.heap.size b a v ∧  AF3 (w3.alloc (.cells #[.int .i64 b, .int .i64 a, .int .i64 v] 24)) w3.heap.size b a v ∧ True from ⟨H.out.1.alloc H.out.1.size _, H.out.2.1.alloc _, H.out.2.2.1.alloc _,  AF3.new w3 b a v 24, True.intro⟩)
          obtain ⟨f00, f01, f02⟩ := cells3 H.out.2.1.ab
          obtain ⟨f10, f11, f12⟩ := cells3 H.out.2.2.1.ab
          obtain ⟨f20, f21, f22⟩ := cells3 H.out.2.2.2.1.ab
          go_wp2_with fail
          refine (spcValid_any P a v _).mono ?_
          rintro e w4 ⟨rfl, bb⟩
          have H := Lib.hid (show Below w.heap.size w w4 ∧ AF3 w4 w1.heap.size P a v ∧ AF3 w4 w2.heap.size b a v ∧ AF3 w4 w3.heap.size b a v ∧  True from ⟨below_step H.out.1 bb, H.out.2.1.below bb, H.out.2.2.1.below bb, H.out.2.2.2.1.below bb,  True.intro⟩)
          clear bb
          clear f00 f01 f02 f10 f11 f12 f20 f21 f22
          rw [ho]
          obtain ⟨f00, f01, f02⟩ := cells3 H.out.2.1.ab
          obtain ⟨f10, f11, f12⟩ := cells3 H.out.2.2.1.ab
          obtain ⟨f20, f21, f22⟩ := cells3 H.out.2.2.2.1.ab
          go_wp2_with fail
          refine (iAPrep_any b a v b _).mono ?_
          rintro e w5 ⟨rfl, bb⟩
          have H := Lib.hid (show Below w.heap.size w w5 ∧ AF3 w5 w1.heap.size P a v ∧ AF3 w5 w2.heap.size b a v ∧ AF3 w5 w3.heap.size b a v ∧  True from ⟨below_step H.out.1 bb, H.out.2.1.below bb, H.out.2.2.1.below bb, H.out.2.2.2.1.below bb,  True.intro⟩)
          clear bb
          clear f00 f01 f02 f10 f11 f12 f20 f21 f22
          rw [HS.out.1]
          simp only [Ac.val, AVal]
          have H := Lib.hid (show Below w.heap.size w (w5.alloc (.cells #[.int .i64 b, .int .i64 a, .int .i64 v] 24)) ∧ AF3 (w5.alloc (.cells #[.int .i64 b, .int .i64 a, .int .i64 v] 24)) w1.heap.size P a v ∧ AF3 (w5.alloc (.cells #[.int .i64 b, .int .i64 a, .int .i64 v] 24)) w2.heap.size b a v ∧ AF3 (w5.alloc (.cells #[.int .i64 b, .int .i64 a, .int .i64 v] 24)) w3.heap.size b a v ∧  AF3 (w5.alloc (.cells #[.int .i64 b, .int .i64 a, .int .i64 v] 24)) w5.heap.size b a v ∧ True from ⟨H.out.1.alloc H.out.1.size _, H.out.2.1.alloc _, H.out.2.2.1.alloc _, H.out.2.2.2.1.alloc _,  AF3.new w5 b a v 24, True.intro⟩)
          obtain ⟨f00, f01, f02⟩ := cells3 H.out.2.1.ab
          obtain ⟨f10, f11, f12⟩ := cells3 H.out.2.2.1.ab
          obtain ⟨f20, f21, f22⟩ := cells3 H.out.2.2.2.1.ab
          obtain ⟨f30, f31, f32⟩ := cells3 H.out.2.2.2.2.1.ab
          go_wp2_with fail
          refine (impValid_any b a v _).mono ?_
          rintro e w6 ⟨rfl, bb⟩
          have H := Lib.hid (show Below w.heap.size w w6 ∧ AF3 w6 w1.heap.size P a v ∧ AF3 w6 w2.heap.size b a v ∧ AF3 w6 w3.heap.size b a v ∧ AF3 w6 w5.heap.size b a v ∧  True from ⟨below_step H.out.1 bb, H.out.2.1.below bb, H.out.2.2.1.below bb, H.out.2.2.2.1.below bb, H.out.2.2.2.2.1.below bb,  True.intro⟩)
          clear bb
          clear f00 f01 f02 f10 f11 f12 f20 f21 f22 f30 f31 f32
          rw [HS.out.2]
          go_wp2
          go_ret
          exact ⟨rfl, H.out.1⟩
      · rw [Bool.not_eq_true] at hb
        have HR := Lib.hid (prep_no (P := P) (a := a) (v := v) (.inr hb))
        rcases okB_no hb with hb1 | ⟨hb1, hb2⟩
        · clear hb
          have H := Lib.hid (show Below w.heap.size w (w1.alloc (.cells #[.int .i64 P, .int .i64 a, .int .i64 v] 24)) ∧  AF3 (w1.alloc (.cells #[.int .i64 P, .int .i64 a, .int .i64 v] 24)) w1.heap.size P a v ∧ True from ⟨H.out.1.alloc H.out.1.size _,  AF3.new w1 P a v 24, True.intro⟩)
          obtain ⟨f00, f01, f02⟩ := cells3 H.out.2.1.ab
          go_wp2_with fail
          refine (sAPrep_any P a v b _).mono ?_
          rintro e w2 ⟨rfl, bb⟩
          have H := Lib.hid (show Below w.heap.size w w2 ∧ AF3 w2 w1.heap.size P a v ∧  True from ⟨below_step H.out.1 bb, H.out.2.1.below bb,  True.intro⟩)
          clear bb
          clear f00 f01 f02
          rw [HR.out]
          simp only [Ac.val, AVal]
          have H := Lib.hid (show Below w.heap.size w (w2.alloc (.cells #[.int .i64 0, .int .i64 0, .int .i64 0] 24)) ∧ AF3 (w2.alloc (.cells #[.int .i64 0, .int .i64 0, .int .i64 0] 24)) w1.heap.size P a v ∧  AF3 (w2.alloc (.cells #[.int .i64 0, .int .i64 0, .int .i64 0] 24)) w2.heap.size 0 0 0 ∧ True from ⟨H.out.1.alloc H.out.1.size _, H.out.2.1.alloc _,  AF3.new w2 0 0 0 24, True.intro⟩)
          obtain ⟨f00, f01, f02⟩ := cells3 H.out.2.1.ab
          obtain ⟨f10, f11, f12⟩ := cells3 H.out.2.2.1.ab
          go_wp2_with fail
          refine (iAPrep_any P a v b _).mono ?_
          rintro e w3 ⟨rfl, bb⟩
          have H := Lib.hid (show Below w.heap.size w w3 ∧ AF3 w3 w1.heap.size P a v ∧ AF3 w3 w2.heap.size 0 0 0 ∧  True from ⟨below_step H.out.1 bb, H.out.2.1.below bb, H.out.2.2.1.below bb,  True.intro⟩)
          clear bb
          clear f00 f01 f02 f10 f11 f12
          rw [HR.out]
          simp only [Ac.val, AVal]
          have H := Lib.hid (show Below w.heap.size w (w3.alloc (.cells #[.int .i64 0, .int .i64 0, .int .i64 0] 24)) ∧ AF3 (w3.alloc (.cells #[.int .i64 0, .int .i64 0, .int .i64 0] 24)) w1.heap.size P a v ∧ AF3 (w3.alloc (.cells #[.int .i64 0, .int .i64 0, .int .i64 0] 24)) w2.heap.size 0 0 0 ∧  AF3 (w3.alloc (.cells #[.int .i64 0, .int .i64 0, .int .i64 0] 24)) w3.heap.size 0 0 0 ∧ True from ⟨H.out.1.alloc H.out.1.size _, H.out.2.1.alloc _, H.out.2.2.1.alloc _,  AF3.new w3 0 0 0 24, True.intro⟩)
          obtain ⟨f00, f01, f02⟩ := cells3 H.out.2.1.ab
          obtain ⟨f10, f11, f12⟩ := cells3 H.out.2.2.1.ab
          obtain ⟨f20, f21, f22⟩ := cells3 H.out.2.2.2.1.ab
          go_wp2_with fail
          refine (spcValid_any P a v _).mono ?_
          rintro e w4 ⟨rfl, bb⟩
          have H := Lib.hid (show Below w.heap.size w w4 ∧ AF3 w4 w1.heap.size P a v ∧ AF3 w4 w2.heap.size 0 0 0 ∧ AF3 w4 w3.heap.size 0 0 0 ∧  True from ⟨below_step H.out.1 bb, H.out.2.1.below bb, H.out.2.2.1.below bb, H.out.2.2.2.1.below bb,  True.intro⟩)
          clear bb
          clear f00 f01 f02 f10 f11 f12 f20 f21 f22
          rw [ho]
          obtain ⟨f00, f01, f02⟩ := cells3 H.out.2.1.ab
          obtain ⟨f10, f11, f12⟩ := cells3 H.out.2.2.1.ab
          obtain ⟨f20, f21, f22⟩ := cells3 H.out.2.2.2.1.ab
          go_wp2
          go_ret
          exact ⟨rfl, H.out.1⟩
        · clear hb
          have H := Lib.hid (show Below w.heap.size w (w1.alloc (.cells #[.int .i64 P, .int .i64 a, .int .i64 v] 24)) ∧  AF3 (w1.alloc (.cells #[.int .i64 P, .int .i64 a, .int .i64 v] 24)) w1.heap.size P a v ∧ True from ⟨H.out.1.alloc H.out.1.size _,  AF3.new w1 P a v 24, True.intro⟩)
          obtain ⟨f00, f01, f02⟩ := cells3 H.out.2.1.ab
          go_wp2_with fail
          refine (sAPrep_any P a v b _).mono ?_
          rintro e w2 ⟨rfl, bb⟩
          have H := Lib.hid (show Below w.heap.size w w2 ∧ AF3 w2 w1.heap.size P a v ∧  True from ⟨below_step H.out.1 bb, H.out.2.1.below bb,  True.intro⟩)
          clear bb
          clear f00 f01 f02
          rw [HR.out]
          simp only [Ac.val, AVal]
          have H := Lib.hid (show Below w.heap.size w (w2.alloc (.cells #[.int .i64 0, .int .i64 0, .int .i64 0] 24)) ∧ AF3 (w2.alloc (.cells #[.int .i64 0, .int .i64 0, .int .i64 0] 24)) w1.heap.size P a v ∧  AF3 (w2.alloc (.cells #[.int .i64 0, .int .i64 0, .int .i64 0] 24)) w2.heap.size 0 0 0 ∧ True from ⟨H.out.1.alloc H.out.1.size _, H.out.2.1.alloc _,  AF3.new w2 0 0 0 24, True.intro⟩)
          obtain ⟨f00, f01, f02⟩ := cells3 H.out.2.1.ab
          obtain ⟨f10, f11, f12⟩ := cells3 H.out.2.2.1.ab
          go_wp2_with fail
          refine (iAPrep_any P a v b _).mono ?_
          rintro e w3 ⟨rfl, bb⟩
          have H := Lib.hid (show Below w.heap.size w w3 ∧ AF3 w3 w1.heap.size P a v ∧ AF3 w3 w2.heap.size 0 0 0 ∧  True from ⟨below_step H.out.1 bb, H.out.2.1.below bb, H.out.2.2.1.below bb,  True.intro⟩)
          clear bb
          clear f00 f01 f02 f10 f11 f12
          rw [HR.out]
          simp only [Ac.val, AVal]
          have H := Lib.hid (show Below w.heap.size w (w3.alloc (.cells #[.int .i64 0, .int .i64 0, .int .i64 0] 24)) ∧ AF3 (w3.alloc (.cells #[.int .i64 0, .int .i64 0, .int .i64 0] 24)) w1.heap.size P a v ∧ AF3 (w3.alloc (.cells #[.int .i64 0, .int .i64 0, .int .i64 0] 24)) w2.heap.size 0 0 0 ∧  AF3 (w3.alloc (.cells #[.int .i64 0, .int .i64 0, .int .i64 0] 24)) w3.heap.size 0 0 0 ∧ True from ⟨H.out.1.alloc H.out.1.size _, H.out.2.1.alloc _, H.out.2.2.1.alloc _,  AF3.new w3 0 0 0 24, True.intro⟩)
          obtain ⟨f00, f01, f02⟩ := cells3 H.out.2.1.ab
          obtain ⟨f10, f11, f12⟩ := cells3 H.out.2.2.1.ab
          obtain ⟨f20, f21, f22⟩ := cells3 H.out.2.2.2.1.ab
          go_wp2_with fail
          refine (spcValid_any P a v _).mono ?_
          rintro e w4 ⟨rfl, bb⟩
          have H := Lib.hid (show Below w.heap.size w w4 ∧ AF3 w4 w1.heap.size P a v ∧ AF3 w4 w2.heap.size 0 0 0 ∧ AF3 w4 w3.heap.size 0 0 0 ∧  True from ⟨below_step H.out.1 bb, H.out.2.1.below bb, H.out.2.2.1.below bb, H.out.2.2.2.1.below bb,  True.intro⟩)
          clear bb
          clear f00 f01 f02 f10 f11 f12 f20 f21 f22
          rw [ho]
          obtain ⟨f00, f01, f02⟩ := cells3 H.out.2.1.ab
          obtain ⟨f10, f11, f12⟩ := cells3 H.out.2.2.1.ab
          obtain ⟨f20, f21, f22⟩ := cells3 H.out.2.2.2.1.ab
          go_wp2
          go_ret
          exact ⟨rfl, H.out.1⟩
    · rw [Bool.not_eq_true] at ho
      have HR := Lib.hid (prep_no (b := b) (.inl ho))
      have H := Lib.hid (show Below w.heap.size w (w1.alloc (.cells #[.int .i64 P, .int .i64 a, .int .i64 v] 24)) ∧  AF3 (w1.alloc (.cells #[.int .i64 P, .int .i64 a, .int .i64 v] 24)) w1.heap.size P a v ∧ True from ⟨H.out.1.alloc H.out.1.size _,  AF3.new w1 P a v 24, True.intro⟩)
      obtain ⟨f00, f01, f02⟩ := cells3 H.out.2.1.ab
      go_wp2_with fail
      refine (sAPrep_any P a v b _).mono ?_
      rintro e w2 ⟨rfl, bb⟩
      have H := Lib.hid (show Below w.heap.size w w2 ∧ AF3 w2 w1.heap.size P a v ∧  True from ⟨below_step H.out.1 bb, H.out.2.1.below bb,  True.intro⟩)
      clear bb
      clear f00 f01 f02
      rw [HR.out]
      simp only [Ac.val, AVal]
      have H := Lib.hid (show Below w.heap.size w (w2.alloc (.cells #[.int .i64 0, .int .i64 0, .int .i64 0] 24)) ∧ AF3 (w2.alloc (.cells #[.int .i64 0, .int .i64 0, .int .i64 0] 24)) w1.heap.size P a v ∧  AF3 (w2.alloc (.cells #[.int .i64 0, .int .i64 0, .int .i64 0] 24)) w2.heap.size 0 0 0 ∧ True from ⟨H.out.1.alloc H.out.1.size _, H.out.2.1.alloc _,  AF3.new w2 0 0 0 24, True.intro⟩)
      obtain ⟨f00, f01, f02⟩ := cells3 H.out.2.1.ab
      obtain ⟨f10, f11, f12⟩ := cells3 H.out.2.2.1.ab
      go_wp2_with fail
      refine (iAPrep_any P a v b _).mono ?_
      rintro e w3 ⟨rfl, bb⟩
      have H := Lib.hid (show Below w.heap.size w w3 ∧ AF3 w3 w1.heap.size P a v ∧ AF3 w3 w2.heap.size 0 0 0 ∧  True from ⟨below_step H.out.1 bb, H.out.2.1.below bb, H.out.2.2.1.below bb,  True.intro⟩)
      clear bb
      clear f00 f01 f02 f10 f11 f12
      rw [HR.out]
      simp only [Ac.val, AVal]
      have H := Lib.hid (show Below w.heap.size w (w3.alloc (.cells #[.int .i64 0, .int .i64 0, .int .i64 0] 24)) ∧ AF3 (w3.alloc (.cells #[.int .i64 0, .int .i64 0, .int .i64 0] 24)) w1.heap.size P a v ∧ AF3 (w3.alloc (.cells #[.int .i64 0, .int .i64 0, .int .i64 0] 24)) w2.heap.size 0 0 0 ∧  AF3 (w3.alloc (.cells #[.int .i64 0, .int .i64 0, .int .i64 0] 24)) w3.heap.size 0 0 0 ∧ True from ⟨H.out.1.alloc H.out.1.size _, H.out.2.1.alloc _, H.out.2.2.1.alloc _,  AF3.new w3 0 0 0 24, True.intro⟩)
      obtain ⟨f00, f01, f02⟩ := cells3 H.out.2.1.ab
      obtain ⟨f10, f11, f12⟩ := cells3 H.out.2.2.1.ab
      obtain ⟨f20, f21, f22⟩ := cells3 H.out.2.2.2.1.ab
      go_wp2_with fail
      refine (spcValid_any P a v _).mono ?_
      rintro e w4 ⟨rfl, bb⟩
      have H := Lib.hid (show Below w.heap.size w w4 ∧ AF3 w4 w1.heap.size P a v ∧ AF3 w4 w2.heap.size 0 0 0 ∧ AF3 w4 w3.heap.size 0 0 0 ∧  True from ⟨below_step H.out.1 bb, H.out.2.1.below bb, H.out.2.2.1.below bb, H.out.2.2.2.1.below bb,  True.intro⟩)
      clear bb
      clear f00 f01 f02 f10 f11 f12 f20 f21 f22
      rw [ho]
      obtain ⟨f00, f01, f02⟩ := cells3 H.out.2.1.ab
      obtain ⟨f10, f11, f12⟩ := cells3 H.out.2.2.1.ab
      obtain ⟨f20, f21, f22⟩ := cells3 H.out.2.2.2.1.ab
      go_wp2
      go_ret
      exact ⟨rfl, H.out.1⟩
  · skip
    go_enter Try.func3, Try.ntmps3
    go_wp2
    go_ret
    exact ⟨rfl, Below.refl _ w⟩

set_option maxRecDepth 100000 in
set_option maxHeartbeats 3200000 in
theorem walkAccState (A : Option Addr) (c : Nat) (l : List Int) (w : World) (ha : BL w A l) (hc : l.length ≤ c) (hm : l.length ≤ maxLen) (hmc : c ≤ maxLen) :
    Calls Try.prog 4 #[.slice A l.length c] w fun e w' => e = .returned (.bool true) ∧ Below w.heap.size w w' := by
  have hm1 := hm
  unfold maxLen at hm1
  by_cases hl : l.length ≤ 1048576
  · go_enter Try.func4, Try.ntmps4
    go_wp2_with fail
    refine (drawAA_any _ _ _ _ ha hc hm hmc).mono ?_
    rintro e w1 ⟨P, a, v, b, c', hb0, hb21, hc1, hc108, rfl, B1⟩
    clear ha hm hc hmc
    unfold AVal
    have H := Lib.hid (show Below w.heap.size w w1 ∧ True from ⟨B1, True.intro⟩)
    clear B1
    by_cases ho : okA P a v = true
    · by_cases hb : okB b = true
      · obtain ⟨hb1, hb2⟩ := okB_yes hb
        by_cases hv : okV c' = true
        · obtain ⟨hv1, hv2⟩ := okV_yes hv
          by_cases hp : b < P
          · have HR := Lib.hid (acc_low ho hb hv hp)
            have H := Lib.hid (show Below w.heap.size w (w1.alloc (.cells #[.int .i64 P, .int .i64 a, .int .i64 v] 24)) ∧  AF3 (w1.alloc (.cells #[.int .i64 P, .int .i64 a, .int .i64 v] 24)) w1.heap.size P a v ∧ True from ⟨H.out.1.alloc H.out.1.size _,  AF3.new w1 P a v 24, True.intro⟩)
            obtain ⟨f00, f01, f02⟩ := cells3 H.out.2.1.ab
            go_wp2_with fail
            refine (sAAcc_any P a v b c' _).mono ?_
            rintro e w2 ⟨rfl, bb⟩
            have H := Lib.hid (show Below w.heap.size w w2 ∧ AF3 w2 w1.heap.size P a v ∧  True from ⟨below_step H.out.1 bb, H.out.2.1.below bb,  True.intro⟩)
            clear bb
            clear f00 f01 f02
            rw [HR.out]
            simp only [Ac.val, AVal]
            have H := Lib.hid (show Below w.heap.size w (w2.alloc (.cells #[.int .i64 P, .int .i64 a, .int .i64 v] 24)) ∧ AF3 (w2.alloc (.cells #[.int .i64 P, .int .i64 a, .int .i64 v] 24)) w1.heap.size P a v ∧  AF3 (w2.alloc (.cells #[.int .i64 P, .int .i64 a, .int .i64 v] 24)) w2.heap.size P a v ∧ True from ⟨H.out.1.alloc H.out.1.size _, H.out.2.1.alloc _,  AF3.new w2 P a v 24, True.intro⟩)
            obtain ⟨f00, f01, f02⟩ := cells3 H.out.2.1.ab
            obtain ⟨f10, f11, f12⟩ := cells3 H.out.2.2.1.ab
            go_wp2_with fail
            refine (iAAcc_any P a v b c' _).mono ?_
            rintro e w3 ⟨rfl, bb⟩
            have H := Lib.hid (show Below w.heap.size w w3 ∧ AF3 w3 w1.heap.size P a v ∧ AF3 w3 w2.heap.size P a v ∧  True from ⟨below_step H.out.1 bb, H.out.2.1.below bb, H.out.2.2.1.below bb,  True.intro⟩)
            clear bb
            clear f00 f01 f02 f10 f11 f12
            rw [HR.out]
            simp only [Ac.val, AVal]
            have H := Lib.hid (show Below w.heap.size w (w3.alloc (.cells #[.int .i64 P, .int .i64 a, .int .i64 v] 24)) ∧ AF3 (w3.alloc (.cells #[.int .i64 P, .int .i64 a, .int .i64 v] 24)) w1.heap.size P a v ∧ AF3 (w3.alloc (.cells #[.int .i64 P, .int .i64 a, .int .i64 v] 24)) w2.heap.size P a v ∧  AF3 (w3.alloc (.cells #[.int .i64 P, .int .i64 a, .int .i64 v] 24)) w3.heap.size P a v ∧ True from ⟨H.out.1.alloc H.out.1.size _, H.out.2.1.alloc _, H.out.2.2.1.alloc _,  AF3.new w3 P a v 24, True.intro⟩)
            obtain ⟨f00, f01, f02⟩ := cells3 H.out.2.1.ab
            obtain ⟨f10, f11, f12⟩ := cells3 H.out.2.2.1.ab
            obtain ⟨f20, f21, f22⟩ := cells3 H.out.2.2.2.1.ab
            go_wp2_with fail
            refine (spcValid_any P a v _).mono ?_
            rintro e w4 ⟨rfl, bb⟩
            have H := Lib.hid (show Below w.heap.size w w4 ∧ AF3 w4 w1.heap.size P a v ∧ AF3 w4 w2.heap.size P a v ∧ AF3 w4 w3.heap.size P a v ∧  True from ⟨below_step H.out.1 bb, H.out.2.1.below bb, H.out.2.2.1.below bb, H.out.2.2.2.1.below bb,  True.intro⟩)
            clear bb
            clear f00 f01 f02 f10 f11 f12 f20 f21 f22
            rw [ho]
            obtain ⟨f00, f01, f02⟩ := cells3 H.out.2.1.ab
            obtain ⟨f10, f11, f12⟩ := cells3 H.out.2.2.1.ab
            obtain ⟨f20, f21, f22⟩ := cells3 H.out.2.2.2.1.ab
            go_wp2
            go_ret
            exact ⟨rfl, H.out.1⟩
          · have HR := Lib.hid (acc_high ho hb hv hp)
            have HS := Lib.hid (okA_bb hb hv)
            have hp' : P ≤ b := by omega
            have H := Lib.hid (show Below w.heap.size w (w1.alloc (.cells #[.int .i64 P, .int .i64 a, .int .i64 v] 24)) ∧  AF3 (w1.alloc (.cells #[.int .i64 P, .int .i64 a, .int .i64 v] 24)) w1.heap.size P a v ∧ True from ⟨H.out.1.alloc H.out.1.size _,  AF3.new w1 P a v 24, True.intro⟩)
            obtain ⟨f00, f01, f02⟩ := cells3 H.out.2.1.ab
            go_wp2_with fail
            refine (sAAcc_any P a v b c' _).mono ?_
            rintro e w2 ⟨rfl, bb⟩
            have H := Lib.hid (show Below w.heap.size w w2 ∧ AF3 w2 w1.heap.size P a v ∧  True from ⟨below_step H.out.1 bb, H.out.2.1.below bb,  True.intro⟩)
            clear bb
            clear f00 f01 f02
            rw [HR.out]
            simp only [Ac.val, AVal]
            have H := Lib.hid (show Below w.heap.size w (w2.alloc (.cells #[.int .i64 b, .int .i64 b, .int .i64 c'] 24)) ∧ AF3 (w2.alloc (.cells #[.int .i64 b, .int .i64 b, .int .i64 c'] 24)) w1.heap.size P a v ∧  AF3 (w2.alloc (.cells #[.int .i64 b, .int .i64 b, .int .i64 c'] 24)) w2.heap.size b b c' ∧ True from ⟨H.out.1.alloc H.out.1.size _, H.out.2.1.alloc _,  AF3.new w2 b b c' 24, True.intro⟩)
            obtain ⟨f00, f01, f02⟩ := cells3 H.out.2.1.ab
            obtain ⟨f10, f11, f12⟩ := cells3 H.out.2.2.1.ab
            go_wp2_with fail
            refine (iAAcc_any P a v b c' _).mono ?_
            rintro e w3 ⟨rfl, bb⟩
            have H := Lib.hid (show Below w.heap.size w w3 ∧ AF3 w3 w1.heap.size P a v ∧ AF3 w3 w2.heap.size b b c' ∧  True from ⟨below_step H.out.1 bb, H.out.2.1.below bb, H.out.2.2.1.below bb,  True.intro⟩)
            clear bb
            clear f00 f01 f02 f10 f11 f12
            rw [HR.out]
            simp only [Ac.val, AVal]
            have H := Lib.hid (show Below w.heap.size w (w3.alloc (.cells #[.int .i64 b, .int .i64 b, .int .i64 c'] 24)) ∧ AF3 (w3.alloc (.cells #[.int .i64 b, .int .i64 b, .int .i64 c'] 24)) w1.heap.size P a v ∧ AF3 (w3.alloc (.cells #[.int .i64 b, .int .i64 b, .int .i64 c'] 24)) w2.heap.size b b c' ∧  AF3 (w3.alloc (.cells #[.int .i64 b, .int .i64 b, .int .i64 c'] 24)) w3.heap.size b b c' ∧ True from ⟨H.out.1.alloc H.out.1.size _, H.out.2.1.alloc _, H.out.2.2.1.alloc _,  AF3.new w3 b b c' 24, True.intro⟩)
            obtain ⟨f00, f01, f02⟩ := cells3 H.out.2.1.ab
            obtain ⟨f10, f11, f12⟩ := cells3 H.out.2.2.1.ab
            obtain ⟨f20, f21, f22⟩ := cells3 H.out.2.2.2.1.ab
            go_wp2_with fail
            refine (spcValid_any P a v _).mono ?_
            rintro e w4 ⟨rfl, bb⟩
            have H := Lib.hid (show Below w.heap.size w w4 ∧ AF3 w4 w1.heap.size P a v ∧ AF3 w4 w2.heap.size b b c' ∧ AF3 w4 w3.heap.size b b c' ∧  True from ⟨below_step H.out.1 bb, H.out.2.1.below bb, H.out.2.2.1.below bb, H.out.2.2.2.1.below bb,  True.intro⟩)
            clear bb
            clear f00 f01 f02 f10 f11 f12 f20 f21 f22
            rw [ho]
            obtain ⟨f00, f01, f02⟩ := cells3 H.out.2.1.ab
            obtain ⟨f10, f11, f12⟩ := cells3 H.out.2.2.1.ab
            obtain ⟨f20, f21, f22⟩ := cells3 H.out.2.2.2.1.ab
            go_wp2_with fail
            refine (impValid_any b b c' _).mono ?_
            rintro e w5 ⟨rfl, bb⟩
            have H := Lib.hid (show Below w.heap.size w w5 ∧ AF3 w5 w1.heap.size P a v ∧ AF3 w5 w2.heap.size b b c' ∧ AF3 w5 w3.heap.size b b c' ∧  True from ⟨below_step H.out.1 bb, H.out.2.1.below bb, H.out.2.2.1.below bb, H.out.2.2.2.1.below bb,  True.intro⟩)
            clear bb
            clear f00 f01 f02 f10 f11 f12 f20 f21 f22
            rw [HS.out]
            go_wp2
            go_ret
            exact ⟨rfl, H.out.1⟩
        · rw [Bool.not_eq_true] at hv
          have HR := Lib.hid (acc_no (P := P) (a := a) (v := v) (b := b) (.inr (.inr hv)))
          rcases okV_no hv with hv1 | ⟨hv1, hv2⟩
          · omega
          · clear hv
            have H := Lib.hid (show Below w.heap.size w (w1.alloc (.cells #[.int .i64 P, .int .i64 a, .int .i64 v] 24)) ∧  AF3 (w1.alloc (.cells #[.int .i64 P, .int .i64 a, .int .i64 v] 24)) w1.heap.size P a v ∧ True from ⟨H.out.1.alloc H.out.1.size _,  AF3.new w1 P a v 24, True.intro⟩)
            obtain ⟨f00, f01, f02⟩ := cells3 H.out.2.1.ab
            go_wp2_with fail
            refine (sAAcc_any P a v b c' _).mono ?_
            rintro e w2 ⟨rfl, bb⟩
            have H := Lib.hid (show Below w.heap.size w w2 ∧ AF3 w2 w1.heap.size P a v ∧  True from ⟨below_step H.out.1 bb, H.out.2.1.below bb,  True.intro⟩)
            clear bb
            clear f00 f01 f02
            rw [HR.out]
            simp only [Ac.val, AVal]
            have H := Lib.hid (show Below w.heap.size w (w2.alloc (.cells #[.int .i64 0, .int .i64 0, .int .i64 0] 24)) ∧ AF3 (w2.alloc (.cells #[.int .i64 0, .int .i64 0, .int .i64 0] 24)) w1.heap.size P a v ∧  AF3 (w2.alloc (.cells #[.int .i64 0, .int .i64 0, .int .i64 0] 24)) w2.heap.size 0 0 0 ∧ True from ⟨H.out.1.alloc H.out.1.size _, H.out.2.1.alloc _,  AF3.new w2 0 0 0 24, True.intro⟩)
            obtain ⟨f00, f01, f02⟩ := cells3 H.out.2.1.ab
            obtain ⟨f10, f11, f12⟩ := cells3 H.out.2.2.1.ab
            go_wp2_with fail
            refine (iAAcc_any P a v b c' _).mono ?_
            rintro e w3 ⟨rfl, bb⟩
            have H := Lib.hid (show Below w.heap.size w w3 ∧ AF3 w3 w1.heap.size P a v ∧ AF3 w3 w2.heap.size 0 0 0 ∧  True from ⟨below_step H.out.1 bb, H.out.2.1.below bb, H.out.2.2.1.below bb,  True.intro⟩)
            clear bb
            clear f00 f01 f02 f10 f11 f12
            rw [HR.out]
            simp only [Ac.val, AVal]
            have H := Lib.hid (show Below w.heap.size w (w3.alloc (.cells #[.int .i64 0, .int .i64 0, .int .i64 0] 24)) ∧ AF3 (w3.alloc (.cells #[.int .i64 0, .int .i64 0, .int .i64 0] 24)) w1.heap.size P a v ∧ AF3 (w3.alloc (.cells #[.int .i64 0, .int .i64 0, .int .i64 0] 24)) w2.heap.size 0 0 0 ∧  AF3 (w3.alloc (.cells #[.int .i64 0, .int .i64 0, .int .i64 0] 24)) w3.heap.size 0 0 0 ∧ True from ⟨H.out.1.alloc H.out.1.size _, H.out.2.1.alloc _, H.out.2.2.1.alloc _,  AF3.new w3 0 0 0 24, True.intro⟩)
            obtain ⟨f00, f01, f02⟩ := cells3 H.out.2.1.ab
            obtain ⟨f10, f11, f12⟩ := cells3 H.out.2.2.1.ab
            obtain ⟨f20, f21, f22⟩ := cells3 H.out.2.2.2.1.ab
            go_wp2_with fail
            refine (spcValid_any P a v _).mono ?_
            rintro e w4 ⟨rfl, bb⟩
            have H := Lib.hid (show Below w.heap.size w w4 ∧ AF3 w4 w1.heap.size P a v ∧ AF3 w4 w2.heap.size 0 0 0 ∧ AF3 w4 w3.heap.size 0 0 0 ∧  True from ⟨below_step H.out.1 bb, H.out.2.1.below bb, H.out.2.2.1.below bb, H.out.2.2.2.1.below bb,  True.intro⟩)
            clear bb
            clear f00 f01 f02 f10 f11 f12 f20 f21 f22
            rw [ho]
            obtain ⟨f00, f01, f02⟩ := cells3 H.out.2.1.ab
            obtain ⟨f10, f11, f12⟩ := cells3 H.out.2.2.1.ab
            obtain ⟨f20, f21, f22⟩ := cells3 H.out.2.2.2.1.ab
            go_wp2
            go_ret
            exact ⟨rfl, H.out.1⟩
      · rw [Bool.not_eq_true] at hb
        have HR := Lib.hid (acc_no (P := P) (a := a) (v := v) (c := c') (.inr (.inl hb)))
        rcases okB_no hb with hb1 | ⟨hb1, hb2⟩
        · clear hb
          have H := Lib.hid (show Below w.heap.size w (w1.alloc (.cells #[.int .i64 P, .int .i64 a, .int .i64 v] 24)) ∧  AF3 (w1.alloc (.cells #[.int .i64 P, .int .i64 a, .int .i64 v] 24)) w1.heap.size P a v ∧ True from ⟨H.out.1.alloc H.out.1.size _,  AF3.new w1 P a v 24, True.intro⟩)
          obtain ⟨f00, f01, f02⟩ := cells3 H.out.2.1.ab
          go_wp2_with fail
          refine (sAAcc_any P a v b c' _).mono ?_
          rintro e w2 ⟨rfl, bb⟩
          have H := Lib.hid (show Below w.heap.size w w2 ∧ AF3 w2 w1.heap.size P a v ∧  True from ⟨below_step H.out.1 bb, H.out.2.1.below bb,  True.intro⟩)
          clear bb
          clear f00 f01 f02
          rw [HR.out]
          simp only [Ac.val, AVal]
          have H := Lib.hid (show Below w.heap.size w (w2.alloc (.cells #[.int .i64 0, .int .i64 0, .int .i64 0] 24)) ∧ AF3 (w2.alloc (.cells #[.int .i64 0, .int .i64 0, .int .i64 0] 24)) w1.heap.size P a v ∧  AF3 (w2.alloc (.cells #[.int .i64 0, .int .i64 0, .int .i64 0] 24)) w2.heap.size 0 0 0 ∧ True from ⟨H.out.1.alloc H.out.1.size _, H.out.2.1.alloc _,  AF3.new w2 0 0 0 24, True.intro⟩)
          obtain ⟨f00, f01, f02⟩ := cells3 H.out.2.1.ab
          obtain ⟨f10, f11, f12⟩ := cells3 H.out.2.2.1.ab
          go_wp2_with fail
          refine (iAAcc_any P a v b c' _).mono ?_
          rintro e w3 ⟨rfl, bb⟩
          have H := Lib.hid (show Below w.heap.size w w3 ∧ AF3 w3 w1.heap.size P a v ∧ AF3 w3 w2.heap.size 0 0 0 ∧  True from ⟨below_step H.out.1 bb, H.out.2.1.below bb, H.out.2.2.1.below bb,  True.intro⟩)
          clear bb
          clear f00 f01 f02 f10 f11 f12
          rw [HR.out]
          simp only [Ac.val, AVal]
          have H := Lib.hid (show Below w.heap.size w (w3.alloc (.cells #[.int .i64 0, .int .i64 0, .int .i64 0] 24)) ∧ AF3 (w3.alloc (.cells #[.int .i64 0, .int .i64 0, .int .i64 0] 24)) w1.heap.size P a v ∧ AF3 (w3.alloc (.cells #[.int .i64 0, .int .i64 0, .int .i64 0] 24)) w2.heap.size 0 0 0 ∧  AF3 (w3.alloc (.cells #[.int .i64 0, .int .i64 0, .int .i64 0] 24)) w3.heap.size 0 0 0 ∧ True from ⟨H.out.1.alloc H.out.1.size _, H.out.2.1.alloc _, H.out.2.2.1.alloc _,  AF3.new w3 0 0 0 24, True.intro⟩)
          obtain ⟨f00, f01, f02⟩ := cells3 H.out.2.1.ab
          obtain ⟨f10, f11, f12⟩ := cells3 H.out.2.2.1.ab
          obtain ⟨f20, f21, f22⟩ := cells3 H.out.2.2.2.1.ab
          go_wp2_with fail
          refine (spcValid_any P a v _).mono ?_
          rintro e w4 ⟨rfl, bb⟩
          have H := Lib.hid (show Below w.heap.size w w4 ∧ AF3 w4 w1.heap.size P a v ∧ AF3 w4 w2.heap.size 0 0 0 ∧ AF3 w4 w3.heap.size 0 0 0 ∧  True from ⟨below_step H.out.1 bb, H.out.2.1.below bb, H.out.2.2.1.below bb, H.out.2.2.2.1.below bb,  True.intro⟩)
          clear bb
          clear f00 f01 f02 f10 f11 f12 f20 f21 f22
          rw [ho]
          obtain ⟨f00, f01, f02⟩ := cells3 H.out.2.1.ab
          obtain ⟨f10, f11, f12⟩ := cells3 H.out.2.2.1.ab
          obtain ⟨f20, f21, f22⟩ := cells3 H.out.2.2.2.1.ab
          go_wp2
          go_ret
          exact ⟨rfl, H.out.1⟩
        · clear hb
          have H := Lib.hid (show Below w.heap.size w (w1.alloc (.cells #[.int .i64 P, .int .i64 a, .int .i64 v] 24)) ∧  AF3 (w1.alloc (.cells #[.int .i64 P, .int .i64 a, .int .i64 v] 24)) w1.heap.size P a v ∧ True from ⟨H.out.1.alloc H.out.1.size _,  AF3.new w1 P a v 24, True.intro⟩)
          obtain ⟨f00, f01, f02⟩ := cells3 H.out.2.1.ab
          go_wp2_with fail
          refine (sAAcc_any P a v b c' _).mono ?_
          rintro e w2 ⟨rfl, bb⟩
          have H := Lib.hid (show Below w.heap.size w w2 ∧ AF3 w2 w1.heap.size P a v ∧  True from ⟨below_step H.out.1 bb, H.out.2.1.below bb,  True.intro⟩)
          clear bb
          clear f00 f01 f02
          rw [HR.out]
          simp only [Ac.val, AVal]
          have H := Lib.hid (show Below w.heap.size w (w2.alloc (.cells #[.int .i64 0, .int .i64 0, .int .i64 0] 24)) ∧ AF3 (w2.alloc (.cells #[.int .i64 0, .int .i64 0, .int .i64 0] 24)) w1.heap.size P a v ∧  AF3 (w2.alloc (.cells #[.int .i64 0, .int .i64 0, .int .i64 0] 24)) w2.heap.size 0 0 0 ∧ True from ⟨H.out.1.alloc H.out.1.size _, H.out.2.1.alloc _,  AF3.new w2 0 0 0 24, True.intro⟩)
          obtain ⟨f00, f01, f02⟩ := cells3 H.out.2.1.ab
          obtain ⟨f10, f11, f12⟩ := cells3 H.out.2.2.1.ab
          go_wp2_with fail
          refine (iAAcc_any P a v b c' _).mono ?_
          rintro e w3 ⟨rfl, bb⟩
          have H := Lib.hid (show Below w.heap.size w w3 ∧ AF3 w3 w1.heap.size P a v ∧ AF3 w3 w2.heap.size 0 0 0 ∧  True from ⟨below_step H.out.1 bb, H.out.2.1.below bb, H.out.2.2.1.below bb,  True.intro⟩)
          clear bb
          clear f00 f01 f02 f10 f11 f12
          rw [HR.out]
          simp only [Ac.val, AVal]
          have H := Lib.hid (show Below w.heap.size w (w3.alloc (.cells #[.int .i64 0, .int .i64 0, .int .i64 0] 24)) ∧ AF3 (w3.alloc (.cells #[.int .i64 0, .int .i64 0, .int .i64 0] 24)) w1.heap.size P a v ∧ AF3 (w3.alloc (.cells #[.int .i64 0, .int .i64 0, .int .i64 0] 24)) w2.heap.size 0 0 0 ∧  AF3 (w3.alloc (.cells #[.int .i64 0, .int .i64 0, .int .i64 0] 24)) w3.heap.size 0 0 0 ∧ True from ⟨H.out.1.alloc H.out.1.size _, H.out.2.1.alloc _, H.out.2.2.1.alloc _,  AF3.new w3 0 0 0 24, True.intro⟩)
          obtain ⟨f00, f01, f02⟩ := cells3 H.out.2.1.ab
          obtain ⟨f10, f11, f12⟩ := cells3 H.out.2.2.1.ab
          obtain ⟨f20, f21, f22⟩ := cells3 H.out.2.2.2.1.ab
          go_wp2_with fail
          refine (spcValid_any P a v _).mono ?_
          rintro e w4 ⟨rfl, bb⟩
          have H := Lib.hid (show Below w.heap.size w w4 ∧ AF3 w4 w1.heap.size P a v ∧ AF3 w4 w2.heap.size 0 0 0 ∧ AF3 w4 w3.heap.size 0 0 0 ∧  True from ⟨below_step H.out.1 bb, H.out.2.1.below bb, H.out.2.2.1.below bb, H.out.2.2.2.1.below bb,  True.intro⟩)
          clear bb
          clear f00 f01 f02 f10 f11 f12 f20 f21 f22
          rw [ho]
          obtain ⟨f00, f01, f02⟩ := cells3 H.out.2.1.ab
          obtain ⟨f10, f11, f12⟩ := cells3 H.out.2.2.1.ab
          obtain ⟨f20, f21, f22⟩ := cells3 H.out.2.2.2.1.ab
          go_wp2
          go_ret
          exact ⟨rfl, H.out.1⟩
    · rw [Bool.not_eq_true] at ho
      have HR := Lib.hid (acc_no (b := b) (c := c') (.inl ho))
      have H := Lib.hid (show Below w.heap.size w (w1.alloc (.cells #[.int .i64 P, .int .i64 a, .int .i64 v] 24)) ∧  AF3 (w1.alloc (.cells #[.int .i64 P, .int .i64 a, .int .i64 v] 24)) w1.heap.size P a v ∧ True from ⟨H.out.1.alloc H.out.1.size _,  AF3.new w1 P a v 24, True.intro⟩)
      obtain ⟨f00, f01, f02⟩ := cells3 H.out.2.1.ab
      go_wp2_with fail
      refine (sAAcc_any P a v b c' _).mono ?_
      rintro e w2 ⟨rfl, bb⟩
      have H := Lib.hid (show Below w.heap.size w w2 ∧ AF3 w2 w1.heap.size P a v ∧  True from ⟨below_step H.out.1 bb, H.out.2.1.below bb,  True.intro⟩)
      clear bb
      clear f00 f01 f02
      rw [HR.out]
      simp only [Ac.val, AVal]
      have H := Lib.hid (show Below w.heap.size w (w2.alloc (.cells #[.int .i64 0, .int .i64 0, .int .i64 0] 24)) ∧ AF3 (w2.alloc (.cells #[.int .i64 0, .int .i64 0, .int .i64 0] 24)) w1.heap.size P a v ∧  AF3 (w2.alloc (.cells #[.int .i64 0, .int .i64 0, .int .i64 0] 24)) w2.heap.size 0 0 0 ∧ True from ⟨H.out.1.alloc H.out.1.size _, H.out.2.1.alloc _,  AF3.new w2 0 0 0 24, True.intro⟩)
      obtain ⟨f00, f01, f02⟩ := cells3 H.out.2.1.ab
      obtain ⟨f10, f11, f12⟩ := cells3 H.out.2.2.1.ab
      go_wp2_with fail
      refine (iAAcc_any P a v b c' _).mono ?_
      rintro e w3 ⟨rfl, bb⟩
      have H := Lib.hid (show Below w.heap.size w w3 ∧ AF3 w3 w1.heap.size P a v ∧ AF3 w3 w2.heap.size 0 0 0 ∧  True from ⟨below_step H.out.1 bb, H.out.2.1.below bb, H.out.2.2.1.below bb,  True.intro⟩)
      clear bb
      clear f00 f01 f02 f10 f11 f12
      rw [HR.out]
      simp only [Ac.val, AVal]
      have H := Lib.hid (show Below w.heap.size w (w3.alloc (.cells #[.int .i64 0, .int .i64 0, .int .i64 0] 24)) ∧ AF3 (w3.alloc (.cells #[.int .i64 0, .int .i64 0, .int .i64 0] 24)) w1.heap.size P a v ∧ AF3 (w3.alloc (.cells #[.int .i64 0, .int .i64 0, .int .i64 0] 24)) w2.heap.size 0 0 0 ∧  AF3 (w3.alloc (.cells #[.int .i64 0, .int .i64 0, .int .i64 0] 24)) w3.heap.size 0 0 0 ∧ True from ⟨H.out.1.alloc H.out.1.size _, H.out.2.1.alloc _, H.out.2.2.1.alloc _,  AF3.new w3 0 0 0 24, True.intro⟩)
      obtain ⟨f00, f01, f02⟩ := cells3 H.out.2.1.ab
      obtain ⟨f10, f11, f12⟩ := cells3 H.out.2.2.1.ab
      obtain ⟨f20, f21, f22⟩ := cells3 H.out.2.2.2.1.ab
      go_wp2_with fail
      refine (spcValid_any P a v _).mono ?_
      rintro e w4 ⟨rfl, bb⟩
      have H := Lib.hid (show Below w.heap.size w w4 ∧ AF3 w4 w1.heap.size P a v ∧ AF3 w4 w2.heap.size 0 0 0 ∧ AF3 w4 w3.heap.size 0 0 0 ∧  True from ⟨below_step H.out.1 bb, H.out.2.1.below bb, H.out.2.2.1.below bb, H.out.2.2.2.1.below bb,  True.intro⟩)
      clear bb
      clear f00 f01 f02 f10 f11 f12 f20 f21 f22
      rw [ho]
      obtain ⟨f00, f01, f02⟩ := cells3 H.out.2.1.ab
      obtain ⟨f10, f11, f12⟩ := cells3 H.out.2.2.1.ab
      obtain ⟨f20, f21, f22⟩ := cells3 H.out.2.2.2.1.ab
      go_wp2
      go_ret
      exact ⟨rfl, H.out.1⟩
  · skip
    go_enter Try.func4, Try.ntmps4
    go_wp2
    go_ret
    exact ⟨rfl, Below.refl _ w⟩

set_option maxRecDepth 100000 in
set_option maxHeartbeats 3200000 in
theorem walkAccAgain (A : Option Addr) (c : Nat) (l : List Int) (w : World) (ha : BL w A l) (hc : l.length ≤ c) (hm : l.length ≤ maxLen) (hmc : c ≤ maxLen) :
    Calls Try.prog 10 #[.slice A l.length c] w fun e w' => e = .returned (.bool true) ∧ Below w.heap.size w w' := by
  have hm1 := hm
  unfold maxLen at hm1
  by_cases hl : l.length ≤ 1048576
  · go_enter Try.func10, Try.ntmps10
    go_wp2_with fail
    refine (drawAA_any _ _ _ _ ha hc hm hmc).mono ?_
    rintro e w1 ⟨P, a, v, b, c', hb0, hb21, hc1, hc108, rfl, B1⟩
    clear ha hm hc hmc
    unfold AVal
    have H := Lib.hid (show Below w.heap.size w w1 ∧ True from ⟨B1, True.intro⟩)
    clear B1
    by_cases ho : okA P a v = true ∧ okB b = true ∧ okV c' = true
    · obtain ⟨ho, hb, hv⟩ := ho
      by_cases hp : b < P
      · have HR := Lib.hid (acc_low ho hb hv hp)
        have H := Lib.hid (show Below w.heap.size w (w1.alloc (.cells #[.int .i64 P, .int .i64 a, .int .i64 v] 24)) ∧  AF3 (w1.alloc (.cells #[.int .i64 P, .int .i64 a, .int .i64 v] 24)) w1.heap.size P a v ∧ True from ⟨H.out.1.alloc H.out.1.size _,  AF3.new w1 P a v 24, True.intro⟩)
        obtain ⟨f00, f01, f02⟩ := cells3 H.out.2.1.ab
        go_wp2_with fail
        refine (sAAcc_any P a v b c' _).mono ?_
        rintro e w2 ⟨rfl, bb⟩
        have H := Lib.hid (show Below w.heap.size w w2 ∧ AF3 w2 w1.heap.size P a v ∧  True from ⟨below_step H.out.1 bb, H.out.2.1.below bb,  True.intro⟩)
        clear bb
        clear f00 f01 f02
        rw [HR.out]
        simp only [Ac.val, AVal]
        have H := Lib.hid (show Below w.heap.size w (w2.alloc (.cells #[.int .i64 P, .int .i64 a, .int .i64 v] 24)) ∧ AF3 (w2.alloc (.cells #[.int .i64 P, .int .i64 a, .int .i64 v] 24)) w1.heap.size P a v ∧  AF3 (w2.alloc (.cells #[.int .i64 P, .int .i64 a, .int .i64 v] 24)) w2.heap.size P a v ∧ True from ⟨H.out.1.alloc H.out.1.size _, H.out.2.1.alloc _,  AF3.new w2 P a v 24, True.intro⟩)
        obtain ⟨f00, f01, f02⟩ := cells3 H.out.2.1.ab
        obtain ⟨f10, f11, f12⟩ := cells3 H.out.2.2.1.ab
        go_wp2_with fail
        refine (iAAcc_any P a v b c' _).mono ?_
        rintro e w3 ⟨rfl, bb⟩
        have H := Lib.hid (show Below w.heap.size w w3 ∧ AF3 w3 w1.heap.size P a v ∧ AF3 w3 w2.heap.size P a v ∧  True from ⟨below_step H.out.1 bb, H.out.2.1.below bb, H.out.2.2.1.below bb,  True.intro⟩)
        clear bb
        clear f00 f01 f02 f10 f11 f12
        rw [HR.out]
        simp only [Ac.val, AVal]
        have H := Lib.hid (show Below w.heap.size w (w3.alloc (.cells #[.int .i64 P, .int .i64 a, .int .i64 v] 24)) ∧ AF3 (w3.alloc (.cells #[.int .i64 P, .int .i64 a, .int .i64 v] 24)) w1.heap.size P a v ∧ AF3 (w3.alloc (.cells #[.int .i64 P, .int .i64 a, .int .i64 v] 24)) w2.heap.size P a v ∧  AF3 (w3.alloc (.cells #[.int .i64 P, .int .i64 a, .int .i64 v] 24)) w3.heap.size P a v ∧ True from ⟨H.out.1.alloc H.out.1.size _, H.out.2.1.alloc _, H.out.2.2.1.alloc _,  AF3.new w3 P a v 24, True.intro⟩)
        obtain ⟨f00, f01, f02⟩ := cells3 H.out.2.1.ab
        obtain ⟨f10, f11, f12⟩ := cells3 H.out.2.2.1.ab
        obtain ⟨f20, f21, f22⟩ := cells3 H.out.2.2.2.1.ab
        go_wp2
        go_ret
        exact ⟨rfl, H.out.1⟩
      · have HR := Lib.hid (acc_high ho hb hv hp)
        have HS := Lib.hid (And.intro (acc_high (okA_bb hb hv) hb hv (Int.lt_irrefl b)) (prep_low (okA_bb hb hv) hb (Int.le_refl b)))
        have H := Lib.hid (show Below w.heap.size w (w1.alloc (.cells #[.int .i64 P, .int .i64 a, .int .i64 v] 24)) ∧  AF3 (w1.alloc (.cells #[.int .i64 P, .int .i64 a, .int .i64 v] 24)) w1.heap.size P a v ∧ True from ⟨H.out.1.alloc H.out.1.size _,  AF3.new w1 P a v 24, True.intro⟩)
        obtain ⟨f00, f01, f02⟩ := cells3 H.out.2.1.ab
        go_wp2_with fail
        refine (sAAcc_any P a v b c' _).mono ?_
        rintro e w2 ⟨rfl, bb⟩
        have H := Lib.hid (show Below w.heap.size w w2 ∧ AF3 w2 w1.heap.size P a v ∧  True from ⟨below_step H.out.1 bb, H.out.2.1.below bb,  True.intro⟩)
        clear bb
        clear f00 f01 f02
        rw [HR.out]
        simp only [Ac.val, AVal]
        have H := Lib.hid (show Below w.heap.size w (w2.alloc (.cells #[.int .i64 b, .int .i64 b, .int .i64 c'] 24)) ∧ AF3 (w2.alloc (.cells #[.int .i64 b, .int .i64 b, .int .i64 c'] 24)) w1.heap.size P a v ∧  AF3 (w2.alloc (.cells #[.int .i64 b, .int .i64 b, .int .i64 c'] 24)) w2.heap.size b b c' ∧ True from ⟨H.out.1.alloc H.out.1.size _, H.out.2.1.alloc _,  AF3.new w2 b b c' 24, True.intro⟩)
        obtain ⟨f00, f01, f02⟩ := cells3 H.out.2.1.ab
        obtain ⟨f10, f11, f12⟩ := cells3 H.out.2.2.1.ab
        go_wp2_with fail
        refine (iAAcc_any P a v b c' _).mono ?_
        rintro e w3 ⟨rfl, bb⟩
        have H := Lib.hid (show Below w.heap.size w w3 ∧ AF3 w3 w1.heap.size P a v ∧ AF3 w3 w2.heap.size b b c' ∧  True from ⟨below_step H.out.1 bb, H.out.2.1.below bb, H.out.2.2.1.below bb,  True.intro⟩)
        clear bb
        clear f00 f01 f02 f10 f11 f12
        rw [HR.out]
        simp only [Ac.val, AVal]
        have H := Lib.hid (show Below w.heap.size w (w3.alloc (.cells #[.int .i64 b, .int .i64 b, .int .i64 c'] 24)) ∧ AF3 (w3.alloc (.cells #[.int .i64 b, .int .i64 b, .int .i64 c'] 24)) w1.heap.size P a v ∧ AF3 (w3.alloc (.cells #[.int .i64 b, .int .i64 b, .int .i64 c'] 24)) w2.heap.size b b c' ∧  AF3 (w3.alloc (.cells #[.int .i64 b, .int .i64 b, .int .i64 c'] 24)) w3.heap.size b b c' ∧ True from ⟨H.out.1.alloc H.out.1.size _, H.out.2.1.alloc _, H.out.2.2.1.alloc _,  AF3.new w3 b b c' 24, True.intro⟩)
        obtain ⟨f00, f01, f02⟩ := cells3 H.out.2.1.ab
        obtain ⟨f10, f11, f12⟩ := cells3 H.out.2.2.1.ab
        obtain ⟨f20, f21, f22⟩ := cells3 H.out.2.2.2.1.ab
        go_wp2_with fail
        refine (iAAcc_any b b c' b c' _).mono ?_
        rintro e w4 ⟨rfl, bb⟩
        have H := Lib.hid (show Below w.heap.size w w4 ∧ AF3 w4 w1.heap.size P a v ∧ AF3 w4 w2.heap.size b b c' ∧ AF3 w4 w3.heap.size b b c' ∧  True from ⟨below_step H.out.1 bb, H.out.2.1.below bb, H.out.2.2.1.below bb, H.out.2.2.2.1.below bb,  True.intro⟩)
        clear bb
        clear f00 f01 f02 f10 f11 f12 f20 f21 f22
        rw [HS.out.1]
        simp only [Ac.val, AVal]
        have H := Lib.hid (show Below w.heap.size w (w4.alloc (.cells #[.int .i64 b, .int .i64 b, .int .i64 c'] 24)) ∧ AF3 (w4.alloc (.cells #[.int .i64 b, .int .i64 b, .int .i64 c'] 24)) w1.heap.size P a v ∧ AF3 (w4.alloc (.cells #[.int .i64 b, .int .i64 b, .int .i64 c'] 24)) w2.heap.size b b c' ∧ AF3 (w4.alloc (.cells #[.int .i64 b, .int .i64 b, .int .i64 c'] 24)) w3.heap.size b b c' ∧  AF3 (w4.alloc (.cells #[.int .i64 b, .int .i64 b, .int .i64 c'] 24)) w4.heap.size b b c' ∧ True from ⟨H.out.1.alloc H.out.1.size _, H.out.2.1.alloc _, H.out.2.2.1.alloc _, H.out.2.2.2.1.alloc _,  AF3.new w4 b b c' 24, True.intro⟩)
        obtain ⟨f00, f01, f02⟩ := cells3 H.out.2.1.ab
        obtain ⟨f10, f11, f12⟩ := cells3 H.out.2.2.1.ab
        obtain ⟨f20, f21, f22⟩ := cells3 H.out.2.2.2.1.ab
        obtain ⟨f30, f31, f32⟩ := cells3 H.out.2.2.2.2.1.ab
        go_wp2_with fail
        refine (iAPrep_any b b c' b _).mono ?_
        rintro e w5 ⟨rfl, bb⟩
        have H := Lib.hid (show Below w.heap.size w w5 ∧ AF3 w5 w1.heap.size P a v ∧ AF3 w5 w2.heap.size b b c' ∧ AF3 w5 w3.heap.size b b c' ∧ AF3 w5 w4.heap.size b b c' ∧  True from ⟨below_step H.out.1 bb, H.out.2.1.below bb, H.out.2.2.1.below bb, H.out.2.2.2.1.below bb, H.out.2.2.2.2.1.below bb,  True.intro⟩)
        clear bb
        clear f00 f01 f02 f10 f11 f12 f20 f21 f22 f30 f31 f32
        rw [HS.out.2]
        simp only [Ac.val, AVal]
        have H := Lib.hid (show Below w.heap.size w (w5.alloc (.cells #[.int .i64 b, .int .i64 b, .int .i64 c'] 24)) ∧ AF3 (w5.alloc (.cells #[.int .i64 b, .int .i64 b, .int .i64 c'] 24)) w1.heap.size P a v ∧ AF3 (w5.alloc (.cells #[.int .i64 b, .int .i64 b, .int .i64 c'] 24)) w2.heap.size b b c' ∧ AF3 (w5.alloc (.cells #[.int .i64 b, .int .i64 b, .int .i64 c'] 24)) w3.heap.size b b c' ∧ AF3 (w5.alloc (.cells #[.int .i64 b, .int .i64 b, .int .i64 c'] 24)) w4.heap.size b b c' ∧  AF3 (w5.alloc (.cells #[.int .i64 b, .int .i64 b, .int .i64 c'] 24)) w5.heap.size b b c' ∧ True from ⟨H.out.1.alloc H.out.1.size _, H.out.2.1.alloc _, H.out.2.2.1.alloc _, H.out.2.2.2.1.alloc _, H.out.2.2.2.2.1.alloc _,  AF3.new w5 b b c' 24, True.intro⟩)
        obtain ⟨f00, f01, f02⟩ := cells3 H.out.2.1.ab
        obtain ⟨f10, f11, f12⟩ := cells3 H.out.2.2.1.ab
        obtain ⟨f20, f21, f22⟩ := cells3 H.out.2.2.2.1.ab
        obtain ⟨f30, f31, f32⟩ := cells3 H.out.2.2.2.2.1.ab
        obtain ⟨f40, f41, f42⟩ := cells3 H.out.2.2.2.2.2.1.ab
        go_wp2
        go_ret
        exact ⟨rfl, H.out.1⟩
    · have HR := Lib.hid (acc_no (P := P) (a := a) (v := v) (b := b) (c := c') (by revert ho; cases okA P a v <;> cases okB b <;> cases okV c' <;> simp))
      clear ho
      have H := Lib.hid (show Below w.heap.size w (w1.alloc (.cells #[.int .i64 P, .int .i64 a, .int .i64 v] 24)) ∧  AF3 (w1.alloc (.cells #[.int .i64 P, .int .i64 a, .int .i64 v] 24)) w1.heap.size P a v ∧ True from ⟨H.out.1.alloc H.out.1.size _,  AF3.new w1 P a v 24, True.intro⟩)
      obtain ⟨f00, f01, f02⟩ := cells3 H.out.2.1.ab
      go_wp2_with fail
      refine (sAAcc_any P a v b c' _).mono ?_
      rintro e w2 ⟨rfl, bb⟩
      have H := Lib.hid (show Below w.heap.size w w2 ∧ AF3 w2 w1.heap.size P a v ∧  True from ⟨below_step H.out.1 bb, H.out.2.1.below bb,  True.intro⟩)
      clear bb
      clear f00 f01 f02
      rw [HR.out]
      simp only [Ac.val, AVal]
      have H := Lib.hid (show Below w.heap.size w (w2.alloc (.cells #[.int .i64 0, .int .i64 0, .int .i64 0] 24)) ∧ AF3 (w2.alloc (.cells #[.int .i64 0, .int .i64 0, .int .i64 0] 24)) w1.heap.size P a v ∧  AF3 (w2.alloc (.cells #[.int .i64 0, .int .i64 0, .int .i64 0] 24)) w2.heap.size 0 0 0 ∧ True from ⟨H.out.1.alloc H.out.1.size _, H.out.2.1.alloc _,  AF3.new w2 0 0 0 24, True.intro⟩)
      obtain ⟨f00, f01, f02⟩ := cells3 H.out.2.1.ab
      obtain ⟨f10, f11, f12⟩ := cells3 H.out.2.2.1.ab
      go_wp2_with fail
      refine (iAAcc_any P a v b c' _).mono ?_
      rintro e w3 ⟨rfl, bb⟩
      have H := Lib.hid (show Below w.heap.size w w3 ∧ AF3 w3 w1.heap.size P a v ∧ AF3 w3 w2.heap.size 0 0 0 ∧  True from ⟨below_step H.out.1 bb, H.out.2.1.below bb, H.out.2.2.1.below bb,  True.intro⟩)
      clear bb
      clear f00 f01 f02 f10 f11 f12
      rw [HR.out]
      simp only [Ac.val, AVal]
      have H := Lib.hid (show Below w.heap.size w (w3.alloc (.cells #[.int .i64 0, .int .i64 0, .int .i64 0] 24)) ∧ AF3 (w3.alloc (.cells #[.int .i64 0, .int .i64 0, .int .i64 0] 24)) w1.heap.size P a v ∧ AF3 (w3.alloc (.cells #[.int .i64 0, .int .i64 0, .int .i64 0] 24)) w2.heap.size 0 0 0 ∧  AF3 (w3.alloc (.cells #[.int .i64 0, .int .i64 0, .int .i64 0] 24)) w3.heap.size 0 0 0 ∧ True from ⟨H.out.1.alloc H.out.1.size _, H.out.2.1.alloc _, H.out.2.2.1.alloc _,  AF3.new w3 0 0 0 24, True.intro⟩)
      obtain ⟨f00, f01, f02⟩ := cells3 H.out.2.1.ab
      obtain ⟨f10, f11, f12⟩ := cells3 H.out.2.2.1.ab
      obtain ⟨f20, f21, f22⟩ := cells3 H.out.2.2.2.1.ab
      go_wp2
      go_ret
      exact ⟨rfl, H.out.1⟩
  · skip
    go_enter Try.func10, Try.ntmps10
    go_wp2
    go_ret
    exact ⟨rfl, Below.refl _ w⟩

set_option linter.unusedVariables false in
set_option maxRecDepth 100000 in
set_option maxHeartbeats 3200000 in
theorem walkPromMono (A A' : Option Addr) (c c' : Nat) (l l' : List Int) (w : World) (ha : BL w A l) (hc : l.length ≤ c) (hm : l.length ≤ maxLen) (hmc : c ≤ maxLen) (ha' : BL w A' l') (hc' : l'.length ≤ c') (hm' : l'.length ≤ maxLen) (hmc' : c' ≤ maxLen) :
    Calls Try.prog 5 #[.slice A l.length c, .slice A' l'.length c'] w fun e w' => e = .returned (.bool true) ∧ Below w.heap.size w w' := by
  have hm1 := hm
  unfold maxLen at hm1
  have hm2 := hm'
  unfold maxLen at hm2
  by_cases hl : l.length ≤ 1048576
  · by_cases hl' : l'.length ≤ 1048576
    · clear ha' hc' hm' hmc'
      go_enter Try.func5, Try.ntmps5
      go_wp2_with fail
      refine (drawAP_any _ _ _ _ ha hc hm hmc).mono ?_
      rintro e w1 ⟨P, a, v, b, hb0, hb21, rfl, B1⟩
      clear ha hm hc hmc
      unfold AVal
      have H := Lib.hid (show Below w.heap.size w w1 ∧ True from ⟨B1, True.intro⟩)
      clear B1
      by_cases ho : okA P a v = true ∧ okB b = true
      · obtain ⟨ho, hb⟩ := ho
        by_cases hp : b ≤ P
        · have HR := Lib.hid (prep_low ho hb hp)
          have H := Lib.hid (show Below w.heap.size w (w1.alloc (.cells #[.int .i64 P, .int .i64 a, .int .i64 v] 24)) ∧  AF3 (w1.alloc (.cells #[.int .i64 P, .int .i64 a, .int .i64 v] 24)) w1.heap.size P a v ∧ True from ⟨H.out.1.alloc H.out.1.size _,  AF3.new w1 P a v 24, True.intro⟩)
          obtain ⟨f00, f01, f02⟩ := cells3 H.out.2.1.ab
          go_wp2_with fail
          refine (sAPrep_any P a v b _).mono ?_
          rintro e w2 ⟨rfl, bb⟩
          have H := Lib.hid (show Below w.heap.size w w2 ∧ AF3 w2 w1.heap.size P a v ∧  True from ⟨below_step H.out.1 bb, H.out.2.1.below bb,  True.intro⟩)
          clear bb
          clear f00 f01 f02
          rw [HR.out]
          simp only [Ac.val, AVal]
          have H := Lib.hid (show Below w.heap.size w (w2.alloc (.cells #[.int .i64 P, .int .i64 a, .int .i64 v] 24)) ∧ AF3 (w2.alloc (.cells #[.int .i64 P, .int .i64 a, .int .i64 v] 24)) w1.heap.size P a v ∧  AF3 (w2.alloc (.cells #[.int .i64 P, .int .i64 a, .int .i64 v] 24)) w2.heap.size P a v ∧ True from ⟨H.out.1.alloc H.out.1.size _, H.out.2.1.alloc _,  AF3.new w2 P a v 24, True.intro⟩)
          obtain ⟨f00, f01, f02⟩ := cells3 H.out.2.1.ab
          obtain ⟨f10, f11, f12⟩ := cells3 H.out.2.2.1.ab
          go_wp2_with fail
          refine (iAPrep_any P a v b _).mono ?_
          rintro e w3 ⟨rfl, bb⟩
          have H := Lib.hid (show Below w.heap.size w w3 ∧ AF3 w3 w1.heap.size P a v ∧ AF3 w3 w2.heap.size P a v ∧  True from ⟨below_step H.out.1 bb, H.out.2.1.below bb, H.out.2.2.1.below bb,  True.intro⟩)
          clear bb
          clear f00 f01 f02 f10 f11 f12
          rw [HR.out]
          simp only [Ac.val, AVal]
          have H := Lib.hid (show Below w.heap.size w (w3.alloc (.cells #[.int .i64 P, .int .i64 a, .int .i64 v] 24)) ∧ AF3 (w3.alloc (.cells #[.int .i64 P, .int .i64 a, .int .i64 v] 24)) w1.heap.size P a v ∧ AF3 (w3.alloc (.cells #[.int .i64 P, .int .i64 a, .int .i64 v] 24)) w2.heap.size P a v ∧  AF3 (w3.alloc (.cells #[.int .i64 P, .int .i64 a, .int .i64 v] 24)) w3.heap.size P a v ∧ True from ⟨H.out.1.alloc H.out.1.size _, H.out.2.1.alloc _, H.out.2.2.1.alloc _,  AF3.new w3 P a v 24, True.intro⟩)
          obtain ⟨f00, f01, f02⟩ := cells3 H.out.2.1.ab
          obtain ⟨f10, f11, f12⟩ := cells3 H.out.2.2.1.ab
          obtain ⟨f20, f21, f22⟩ := cells3 H.out.2.2.2.1.ab
          go_wp2
          go_ret
          exact ⟨rfl, H.out.1⟩
        · have HR := Lib.hid (prep_high ho hb hp)
          have hp' : P < b := by omega
          have hab : a ≤ b := by simp [okA] at ho; omega
          have hx : okB (1 + ((l'.length : Int) % 20)) = true := by simp [okB]; omega
          by_cases hq : 1 + ((l'.length : Int) % 20) < b
          · have HS := Lib.hid (acc_low (okA_up ho hb hp) hx (by decide : okV 5 = true) hq)
            have H := Lib.hid (show Below w.heap.size w (w1.alloc (.cells #[.int .i64 P, .int .i64 a, .int .i64 v] 24)) ∧  AF3 (w1.alloc (.cells #[.int .i64 P, .int .i64 a, .int .i64 v] 24)) w1.heap.size P a v ∧ True from ⟨H.out.1.alloc H.out.1.size _,  AF3.new w1 P a v 24, True.intro⟩)
            obtain ⟨f00, f01, f02⟩ := cells3 H.out.2.1.ab
            go_wp2_with fail
            refine (sAPrep_any P a v b _).mono ?_
            rintro e w2 ⟨rfl, bb⟩
            have H := Lib.hid (show Below w.heap.size w w2 ∧ AF3 w2 w1.heap.size P a v ∧  True from ⟨below_step H.out.1 bb, H.out.2.1.below bb,  True.intro⟩)
            clear bb
            clear f00 f01 f02
            rw [HR.out]
            simp only [Ac.val, AVal]
            have H := Lib.hid (show Below w.heap.size w (w2.alloc (.cells #[.int .i64 b, .int .i64 a, .int .i64 v] 24)) ∧ AF3 (w2.alloc (.cells #[.int .i64 b, .int .i64 a, .int .i64 v] 24)) w1.heap.size P a v ∧  AF3 (w2.alloc (.cells #[.int .i64 b, .int .i64 a, .int .i64 v] 24)) w2.heap.size b a v ∧ True from ⟨H.out.1.alloc H.out.1.size _, H.out.2.1.alloc _,  AF3.new w2 b a v 24, True.intro⟩)
            obtain ⟨f00, f01, f02⟩ := cells3 H.out.2.1.ab
            obtain ⟨f10, f11, f12⟩ := cells3 H.out.2.2.1.ab
            go_wp2_with fail
            refine (iAPrep_any P a v b _).mono ?_
            rintro e w3 ⟨rfl, bb⟩
            have H := Lib.hid (show Below w.heap.size w w3 ∧ AF3 w3 w1.heap.size P a v ∧ AF3 w3 w2.heap.size b a v ∧  True from ⟨below_step H.out.1 bb, H.out.2.1.below bb, H.out.2.2.1.below bb,  True.intro⟩)
            clear bb
            clear f00 f01 f02 f10 f11 f12
            rw [HR.out]
            simp only [Ac.val, AVal]
            have H := Lib.hid (show Below w.heap.size w (w3.alloc (.cells #[.int .i64 b, .int .i64 a, .int .i64 v] 24)) ∧ AF3 (w3.alloc (.cells #[.int .i64 b, .int .i64 a, .int .i64 v] 24)) w1.heap.size P a v ∧ AF3 (w3.alloc (.cells #[.int .i64 b, .int .i64 a, .int .i64 v] 24)) w2.heap.size b a v ∧  AF3 (w3.alloc (.cells #[.int .i64 b, .int .i64 a, .int .i64 v] 24)) w3.heap.size b a v ∧ True from ⟨H.out.1.alloc H.out.1.size _, H.out.2.1.alloc _, H.out.2.2.1.alloc _,  AF3.new w3 b a v 24, True.intro⟩)
            obtain ⟨f00, f01, f02⟩ := cells3 H.out.2.1.ab
            obtain ⟨f10, f11, f12⟩ := cells3 H.out.2.2.1.ab
            obtain ⟨f20, f21, f22⟩ := cells3 H.out.2.2.2.1.ab
            go_wp2_with fail
            refine (iAAcc_any b a v (1 + ((l'.length : Int) % 20)) 5 _).mono ?_
            rintro e w4 ⟨rfl, bb⟩
            have H := Lib.hid (show Below w.heap.size w w4 ∧ AF3 w4 w1.heap.size P a v ∧ AF3 w4 w2.heap.size b a v ∧ AF3 w4 w3.heap.size b a v ∧  True from ⟨below_step H.out.1 bb, H.out.2.1.below bb, H.out.2.2.1.below bb, H.out.2.2.2.1.below bb,  True.intro⟩)
            clear bb
            clear f00 f01 f02 f10 f11 f12 f20 f21 f22
            rw [HS.out]
            simp only [Ac.val, AVal]
            have H := Lib.hid (show Below w.heap.size w (w4.alloc (.cells #[.int .i64 b, .int .i64 a, .int .i64 v] 24)) ∧ AF3 (w4.alloc (.cells #[.int .i64 b, .int .i64 a, .int .i64 v] 24)) w1.heap.size P a v ∧ AF3 (w4.alloc (.cells #[.int .i64 b, .int .i64 a, .int .i64 v] 24)) w2.heap.size b a v ∧ AF3 (w4.alloc (.cells #[.int .i64 b, .int .i64 a, .int .i64 v] 24)) w3.heap.size b a v ∧  AF3 (w4.alloc (.cells #[.int .i64 b, .int .i64 a, .int .i64 v] 24)) w4.heap.size b a v ∧ True from ⟨H.out.1.alloc H.out.1.size _, H.out.2.1.alloc _, H.out.2.2.1.alloc _, H.out.2.2.2.1.alloc _,  AF3.new w4 b a v 24, True.intro⟩)
            obtain ⟨f00, f01, f02⟩ := cells3 H.out.2.1.ab
            obtain ⟨f10, f11, f12⟩ := cells3 H.out.2.2.1.ab
            obtain ⟨f20, f21, f22⟩ := cells3 H.out.2.2.2.1.ab
            obtain ⟨f30, f31, f32⟩ := cells3 H.out.2.2.2.2.1.ab
            go_wp2
            go_ret
            exact ⟨rfl, H.out.1⟩
          · have HS := Lib.hid (acc_high (okA_up ho hb hp) hx (by decide : okV 5 = true) hq)
            have hq' : b ≤ 1 + ((l'.length : Int) % 20) := by omega
            have hq2 : a ≤ 1 + ((l'.length : Int) % 20) := by omega
            have H := Lib.hid (show Below w.heap.size w (w1.alloc (.cells #[.int .i64 P, .int .i64 a, .int .i64 v] 24)) ∧  AF3 (w1.alloc (.cells #[.int .i64 P, .int .i64 a, .int .i64 v] 24)) w1.heap.size P a v ∧ True from ⟨H.out.1.alloc H.out.1.size _,  AF3.new w1 P a v 24, True.intro⟩)
            obtain ⟨f00, f01, f02⟩ := cells3 H.out.2.1.ab
            go_wp2_with fail
            refine (sAPrep_any P a v b _).mono ?_
            rintro e w2 ⟨rfl, bb⟩
            have H := Lib.hid (show Below w.heap.size w w2 ∧ AF3 w2 w1.heap.size P a v ∧  True from ⟨below_step H.out.1 bb, H.out.2.1.below bb,  True.intro⟩)
            clear bb
            clear f00 f01 f02
            rw [HR.out]
            simp only [Ac.val, AVal]
            have H := Lib.hid (show Below w.heap.size w (w2.alloc (.cells #[.int .i64 b, .int .i64 a, .int .i64 v] 24)) ∧ AF3 (w2.alloc (.cells #[.int .i64 b, .int .i64 a, .int .i64 v] 24)) w1.heap.size P a v ∧  AF3 (w2.alloc (.cells #[.int .i64 b, .int .i64 a, .int .i64 v] 24)) w2.heap.size b a v ∧ True from ⟨H.out.1.alloc H.out.1.size _, H.out.2.1.alloc _,  AF3.new w2 b a v 24, True.intro⟩)
            obtain ⟨f00, f01, f02⟩ := cells3 H.out.2.1.ab
            obtain ⟨f10, f11, f12⟩ := cells3 H.out.2.2.1.ab
            go_wp2_with fail
            refine (iAPrep_any P a v b _).mono ?_
            rintro e w3 ⟨rfl, bb⟩
            have H := Lib.hid (show Below w.heap.size w w3 ∧ AF3 w3 w1.heap.size P a v ∧ AF3 w3 w2.heap.size b a v ∧  True from ⟨below_step H.out.1 bb, H.out.2.1.below bb, H.out.2.2.1.below bb,  True.intro⟩)
            clear bb
            clear f00 f01 f02 f10 f11 f12
            rw [HR.out]
            simp only [Ac.val, AVal]
            have H := Lib.hid (show Below w.heap.size w (w3.alloc (.cells #[.int .i64 b, .int .i64 a, .int .i64 v] 24)) ∧ AF3 (w3.alloc (.cells #[.int .i64 b, .int .i64 a, .int .i64 v] 24)) w1.heap.size P a v ∧ AF3 (w3.alloc (.cells #[.int .i64 b, .int .i64 a, .int .i64 v] 24)) w2.heap.size b a v ∧  AF3 (w3.alloc (.cells #[.int .i64 b, .int .i64 a, .int .i64 v] 24)) w3.heap.size b a v ∧ True from ⟨H.out.1.alloc H.out.1.size _, H.out.2.1.alloc _, H.out.2.2.1.alloc _,  AF3.new w3 b a v 24, True.intro⟩)
            obtain ⟨f00, f01, f02⟩ := cells3 H.out.2.1.ab
            obtain ⟨f10, f11, f12⟩ := cells3 H.out.2.2.1.ab
            obtain ⟨f20, f21, f22⟩ := cells3 H.out.2.2.2.1.ab
            go_wp2_with fail
            refine (iAAcc_any b a v (1 + ((l'.length : Int) % 20)) 5 _).mono ?_
            rintro e w4 ⟨rfl, bb⟩
            have H := Lib.hid (show Below w.heap.size w w4 ∧ AF3 w4 w1.heap.size P a v ∧ AF3 w4 w2.heap.size b a v ∧ AF3 w4 w3.heap.size b a v ∧  True from ⟨below_step H.out.1 bb, H.out.2.1.below bb, H.out.2.2.1.below bb, H.out.2.2.2.1.below bb,  True.intro⟩)
            clear bb
            clear f00 f01 f02 f10 f11 f12 f20 f21 f22
            rw [HS.out]
            simp only [Ac.val, AVal]
            have H := Lib.hid (show Below w.heap.size w (w4.alloc (.cells #[.int .i64 (1 + ((l'.length : Int) % 20)), .int .i64 (1 + ((l'.length : Int) % 20)), .int .i64 5] 24)) ∧ AF3 (w4.alloc (.cells #[.int .i64 (1 + ((l'.length : Int) % 20)), .int .i64 (1 + ((l'.length : Int) % 20)), .int .i64 5] 24)) w1.heap.size P a v ∧ AF3 (w4.alloc (.cells #[.int .i64 (1 + ((l'.length : Int) % 20)), .int .i64 (1 + ((l'.length : Int) % 20)), .int .i64 5] 24)) w2.heap.size b a v ∧ AF3 (w4.alloc (.cells #[.int .i64 (1 + ((l'.length : Int) % 20)), .int .i64 (1 + ((l'.length : Int) % 20)), .int .i64 5] 24)) w3.heap.size b a v ∧  AF3 (w4.alloc (.cells #[.int .i64 (1 + ((l'.length : Int) % 20)), .int .i64 (1 + ((l'.length : Int) % 20)), .int .i64 5] 24)) w4.heap.size (1 + ((l'.length : Int) % 20)) (1 + ((l'.length : Int) % 20)) 5 ∧ True from ⟨H.out.1.alloc H.out.1.size _, H.out.2.1.alloc _, H.out.2.2.1.alloc _, H.out.2.2.2.1.alloc _,  AF3.new w4 (1 + ((l'.length : Int) % 20)) (1 + ((l'.length : Int) % 20)) 5 24, True.intro⟩)
            obtain ⟨f00, f01, f02⟩ := cells3 H.out.2.1.ab
            obtain ⟨f10, f11, f12⟩ := cells3 H.out.2.2.1.ab
            obtain ⟨f20, f21, f22⟩ := cells3 H.out.2.2.2.1.ab
            obtain ⟨f30, f31, f32⟩ := cells3 H.out.2.2.2.2.1.ab
            go_wp2
            go_ret
            exact ⟨rfl, H.out.1⟩
      · have HR := Lib.hid (prep_no (P := P) (a := a) (v := v) (b := b) (by revert ho; cases okA P a v <;> cases okB b <;> simp))
        clear ho
        have H := Lib.hid (show Below w.heap.size w (w1.alloc (.cells #[.int .i64 P, .int .i64 a, .int .i64 v] 24)) ∧  AF3 (w1.alloc (.cells #[.int .i64 P, .int .i64 a, .int .i64 v] 24)) w1.heap.size P a v ∧ True from ⟨H.out.1.alloc H.out.1.size _,  AF3.new w1 P a v 24, True.intro⟩)
        obtain ⟨f00, f01, f02⟩ := cells3 H.out.2.1.ab
        go_wp2_with fail
        refine (sAPrep_any P a v b _).mono ?_
        rintro e w2 ⟨rfl, bb⟩
        have H := Lib.hid (show Below w.heap.size w w2 ∧ AF3 w2 w1.heap.size P a v ∧  True from ⟨below_step H.out.1 bb, H.out.2.1.below bb,  True.intro⟩)
        clear bb
        clear f00 f01 f02
        rw [HR.out]
        simp only [Ac.val, AVal]
        have H := Lib.hid (show Below w.heap.size w (w2.alloc (.cells #[.int .i64 0, .int .i64 0, .int .i64 0] 24)) ∧ AF3 (w2.alloc (.cells #[.int .i64 0, .int .i64 0, .int .i64 0] 24)) w1.heap.size P a v ∧  AF3 (w2.alloc (.cells #[.int .i64 0, .int .i64 0, .int .i64 0] 24)) w2.heap.size 0 0 0 ∧ True from ⟨H.out.1.alloc H.out.1.size _, H.out.2.1.alloc _,  AF3.new w2 0 0 0 24, True.intro⟩)
        obtain ⟨f00, f01, f02⟩ := cells3 H.out.2.1.ab
        obtain ⟨f10, f11, f12⟩ := cells3 H.out.2.2.1.ab
        go_wp2_with fail
        refine (iAPrep_any P a v b _).mono ?_
        rintro e w3 ⟨rfl, bb⟩
        have H := Lib.hid (show Below w.heap.size w w3 ∧ AF3 w3 w1.heap.size P a v ∧ AF3 w3 w2.heap.size 0 0 0 ∧  True from ⟨below_step H.out.1 bb, H.out.2.1.below bb, H.out.2.2.1.below bb,  True.intro⟩)
        clear bb
        clear f00 f01 f02 f10 f11 f12
        rw [HR.out]
        simp only [Ac.val, AVal]
        have H := Lib.hid (show Below w.heap.size w (w3.alloc (.cells #[.int .i64 0, .int .i64 0, .int .i64 0] 24)) ∧ AF3 (w3.alloc (.cells #[.int .i64 0, .int .i64 0, .int .i64 0] 24)) w1.heap.size P a v ∧ AF3 (w3.alloc (.cells #[.int .i64 0, .int .i64 0, .int .i64 0] 24)) w2.heap.size 0 0 0 ∧  AF3 (w3.alloc (.cells #[.int .i64 0, .int .i64 0, .int .i64 0] 24)) w3.heap.size 0 0 0 ∧ True from ⟨H.out.1.alloc H.out.1.size _, H.out.2.1.alloc _, H.out.2.2.1.alloc _,  AF3.new w3 0 0 0 24, True.intro⟩)
        obtain ⟨f00, f01, f02⟩ := cells3 H.out.2.1.ab
        obtain ⟨f10, f11, f12⟩ := cells3 H.out.2.2.1.ab
        obtain ⟨f20, f21, f22⟩ := cells3 H.out.2.2.2.1.ab
        go_wp2
        go_ret
        exact ⟨rfl, H.out.1⟩
    · skip
      go_enter Try.func5, Try.ntmps5
      go_wp2
      go_ret
      exact ⟨rfl, Below.refl _ w⟩
  · skip
    go_enter Try.func5, Try.ntmps5
    go_wp2
    go_ret
    exact ⟨rfl, Below.refl _ w⟩
end Go.Proofs.Ytndgmglelogegaa
