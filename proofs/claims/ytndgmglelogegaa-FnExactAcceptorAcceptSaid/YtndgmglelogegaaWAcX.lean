/- The exact walks of chapter 21. -/
import Derived.Test.YtndgmglelogegaaAcpM
namespace Go.Proofs.Ytndgmglelogegaa
open Go.RowKit

set_option maxRecDepth 100000 in
set_option maxHeartbeats 3200000 in
theorem walkExactAcceptorValid (p a v : Int) (w : World) :
    Calls Try.prog 12 #[AVal p a v] w fun e w' => e = .returned (.bool true) ∧ Below w.heap.size w w' := by
  have H := Lib.hid (show Below w.heap.size w (w.alloc (.cells #[.int .i64 p, .int .i64 a, .int .i64 v] 41)) ∧ AF3 (w.alloc (.cells #[.int .i64 p, .int .i64 a, .int .i64 v] 41)) w.heap.size p a v ∧ True from ⟨(Below.refl _ w).alloc (Nat.le_refl _) _, AF3.new w p a v 41, True.intro⟩)
  obtain ⟨f00, f01, f02⟩ := cells3 H.out.2.1.ab
  obtain ⟨t, ht⟩ : ∃ t, t = okA p a v := ⟨_, rfl⟩
  have HT := Lib.hid ht
  clear ht
  unfold AVal
  go_enter Try.func12, Try.ntmps12
  go_wp2_with fail
  refine (toAcc_any p a v _).mono ?_
  rintro e w2 ⟨rfl, bb⟩
  have H := Lib.hid (show Below w.heap.size w w2 ∧ AF3 w2 w.heap.size p a v ∧  True from ⟨below_step H.out.1 bb, H.out.2.1.below bb,  True.intro⟩)
  clear bb
  first | clear f00 f01 f02 | skip
  go_wp2_with fail
  refine (spcValid_any p a v _).mono ?_
  rintro e w3 ⟨rfl, bb⟩
  have H := Lib.hid (show Below w.heap.size w w3 ∧ AF3 w3 w.heap.size p a v ∧  True from ⟨below_step H.out.1 bb, H.out.2.1.below bb,  True.intro⟩)
  clear bb
  first | clear f00 f01 f02 | skip
  rw [← HT.out]
  obtain ⟨f00, f01, f02⟩ := cells3 H.out.2.1.ab
  go_wp2_with fail
  refine (toAcc_any p a v _).mono ?_
  rintro e w4 ⟨rfl, bb⟩
  have H := Lib.hid (show Below w.heap.size w w4 ∧ AF3 w4 w.heap.size p a v ∧  True from ⟨below_step H.out.1 bb, H.out.2.1.below bb,  True.intro⟩)
  clear bb
  first | clear f00 f01 f02 | skip
  go_wp2_with fail
  refine (impValid_any p a v _).mono ?_
  rintro e w5 ⟨rfl, bb⟩
  have H := Lib.hid (show Below w.heap.size w w5 ∧ AF3 w5 w.heap.size p a v ∧  True from ⟨below_step H.out.1 bb, H.out.2.1.below bb,  True.intro⟩)
  clear bb
  first | clear f00 f01 f02 | skip
  rw [← HT.out]
  go_wp2
  go_ret
  exact ⟨rfl, H.out.1⟩

set_option maxRecDepth 100000 in
set_option maxHeartbeats 3200000 in
theorem walkExactAcceptorPrepare (p a v b : Int) (w : World) :
    Calls Try.prog 13 #[AVal p a v, .int .i64 b] w fun e w' => e = .returned (.bool true) ∧ Below w.heap.size w w' := by
  obtain ⟨⟨⟨P, A, V⟩, t⟩, hr⟩ : ∃ r, r = aPrep (p, a, v) b := ⟨_, rfl⟩
  have HR := Lib.hid hr
  clear hr
  have H := Lib.hid (show Below w.heap.size w (w.alloc (.cells #[.int .i64 p, .int .i64 a, .int .i64 v] 41)) ∧ AF3 (w.alloc (.cells #[.int .i64 p, .int .i64 a, .int .i64 v] 41)) w.heap.size p a v ∧ True from ⟨(Below.refl _ w).alloc (Nat.le_refl _) _, AF3.new w p a v 41, True.intro⟩)
  obtain ⟨f00, f01, f02⟩ := cells3 H.out.2.1.ab
  unfold AVal
  go_enter Try.func13, Try.ntmps13
  go_wp2_with fail
  refine (toAcc_any p a v _).mono ?_
  rintro e w2 ⟨rfl, bb⟩
  have H := Lib.hid (show Below w.heap.size w w2 ∧ AF3 w2 w.heap.size p a v ∧  True from ⟨below_step H.out.1 bb, H.out.2.1.below bb,  True.intro⟩)
  clear bb
  first | clear f00 f01 f02 | skip
  go_wp2_with fail
  refine (sAPrep_any p a v b _).mono ?_
  rintro e w3 ⟨rfl, bb⟩
  have H := Lib.hid (show Below w.heap.size w w3 ∧ AF3 w3 w.heap.size p a v ∧  True from ⟨below_step H.out.1 bb, H.out.2.1.below bb,  True.intro⟩)
  clear bb
  first | clear f00 f01 f02 | skip
  rw [← HR.out]
  simp only [Ac.val, AVal]
  have H := Lib.hid (show Below w.heap.size w (w3.alloc (.cells #[.int .i64 P, .int .i64 A, .int .i64 V] 24)) ∧ AF3 (w3.alloc (.cells #[.int .i64 P, .int .i64 A, .int .i64 V] 24)) w.heap.size p a v ∧  AF3 (w3.alloc (.cells #[.int .i64 P, .int .i64 A, .int .i64 V] 24)) w3.heap.size P A V ∧ True from ⟨H.out.1.alloc H.out.1.size _, H.out.2.1.alloc _,  AF3.new w3 P A V 24, True.intro⟩)
  obtain ⟨f00, f01, f02⟩ := cells3 H.out.2.1.ab
  obtain ⟨f10, f11, f12⟩ := cells3 H.out.2.2.1.ab
  go_wp2_with fail
  refine (toAcc_any p a v _).mono ?_
  rintro e w4 ⟨rfl, bb⟩
  have H := Lib.hid (show Below w.heap.size w w4 ∧ AF3 w4 w.heap.size p a v ∧ AF3 w4 w3.heap.size P A V ∧  True from ⟨below_step H.out.1 bb, H.out.2.1.below bb, H.out.2.2.1.below bb,  True.intro⟩)
  clear bb
  first | clear f00 f01 f02 f10 f11 f12 | skip
  obtain ⟨f00, f01, f02⟩ := cells3 H.out.2.1.ab
  obtain ⟨f10, f11, f12⟩ := cells3 H.out.2.2.1.ab
  go_wp2_with fail
  refine (iAPrep_any p a v b _).mono ?_
  rintro e w5 ⟨rfl, bb⟩
  have H := Lib.hid (show Below w.heap.size w w5 ∧ AF3 w5 w.heap.size p a v ∧ AF3 w5 w3.heap.size P A V ∧  True from ⟨below_step H.out.1 bb, H.out.2.1.below bb, H.out.2.2.1.below bb,  True.intro⟩)
  clear bb
  first | clear f00 f01 f02 f10 f11 f12 | skip
  rw [← HR.out]
  simp only [Ac.val, AVal]
  have H := Lib.hid (show Below w.heap.size w (w5.alloc (.cells #[.int .i64 P, .int .i64 A, .int .i64 V] 24)) ∧ AF3 (w5.alloc (.cells #[.int .i64 P, .int .i64 A, .int .i64 V] 24)) w.heap.size p a v ∧ AF3 (w5.alloc (.cells #[.int .i64 P, .int .i64 A, .int .i64 V] 24)) w3.heap.size P A V ∧  AF3 (w5.alloc (.cells #[.int .i64 P, .int .i64 A, .int .i64 V] 24)) w5.heap.size P A V ∧ True from ⟨H.out.1.alloc H.out.1.size _, H.out.2.1.alloc _, H.out.2.2.1.alloc _,  AF3.new w5 P A V 24, True.intro⟩)
  obtain ⟨f00, f01, f02⟩ := cells3 H.out.2.1.ab
  obtain ⟨f10, f11, f12⟩ := cells3 H.out.2.2.1.ab
  obtain ⟨f20, f21, f22⟩ := cells3 H.out.2.2.2.1.ab
  go_wp2_with fail
  refine (eqAcc_same P A V _).mono ?_
  rintro e w6 ⟨rfl, bb⟩
  have H := Lib.hid (show Below w.heap.size w w6 ∧ AF3 w6 w.heap.size p a v ∧ AF3 w6 w3.heap.size P A V ∧ AF3 w6 w5.heap.size P A V ∧  True from ⟨below_step H.out.1 bb, H.out.2.1.below bb, H.out.2.2.1.below bb, H.out.2.2.2.1.below bb,  True.intro⟩)
  clear bb
  first | clear f00 f01 f02 f10 f11 f12 f20 f21 f22 | skip
  obtain ⟨f00, f01, f02⟩ := cells3 H.out.2.1.ab
  obtain ⟨f10, f11, f12⟩ := cells3 H.out.2.2.1.ab
  obtain ⟨f20, f21, f22⟩ := cells3 H.out.2.2.2.1.ab
  go_wp2
  go_ret
  exact ⟨rfl, H.out.1⟩

set_option maxRecDepth 100000 in
set_option maxHeartbeats 3200000 in
theorem walkExactAcceptorAccept (p a v b c : Int) (w : World) :
    Calls Try.prog 14 #[AVal p a v, .int .i64 b, .int .i64 c] w fun e w' => e = .returned (.bool true) ∧ Below w.heap.size w w' := by
  obtain ⟨⟨⟨P, A, V⟩, t⟩, hr⟩ : ∃ r, r = aAcc (p, a, v) b c := ⟨_, rfl⟩
  have HR := Lib.hid hr
  clear hr
  have H := Lib.hid (show Below w.heap.size w (w.alloc (.cells #[.int .i64 p, .int .i64 a, .int .i64 v] 41)) ∧ AF3 (w.alloc (.cells #[.int .i64 p, .int .i64 a, .int .i64 v] 41)) w.heap.size p a v ∧ True from ⟨(Below.refl _ w).alloc (Nat.le_refl _) _, AF3.new w p a v 41, True.intro⟩)
  obtain ⟨f00, f01, f02⟩ := cells3 H.out.2.1.ab
  unfold AVal
  go_enter Try.func14, Try.ntmps14
  go_wp2_with fail
  refine (toAcc_any p a v _).mono ?_
  rintro e w2 ⟨rfl, bb⟩
  have H := Lib.hid (show Below w.heap.size w w2 ∧ AF3 w2 w.heap.size p a v ∧  True from ⟨below_step H.out.1 bb, H.out.2.1.below bb,  True.intro⟩)
  clear bb
  first | clear f00 f01 f02 | skip
  go_wp2_with fail
  refine (sAAcc_any p a v b c _).mono ?_
  rintro e w3 ⟨rfl, bb⟩
  have H := Lib.hid (show Below w.heap.size w w3 ∧ AF3 w3 w.heap.size p a v ∧  True from ⟨below_step H.out.1 bb, H.out.2.1.below bb,  True.intro⟩)
  clear bb
  first | clear f00 f01 f02 | skip
  rw [← HR.out]
  simp only [Ac.val, AVal]
  have H := Lib.hid (show Below w.heap.size w (w3.alloc (.cells #[.int .i64 P, .int .i64 A, .int .i64 V] 24)) ∧ AF3 (w3.alloc (.cells #[.int .i64 P, .int .i64 A, .int .i64 V] 24)) w.heap.size p a v ∧  AF3 (w3.alloc (.cells #[.int .i64 P, .int .i64 A, .int .i64 V] 24)) w3.heap.size P A V ∧ True from ⟨H.out.1.alloc H.out.1.size _, H.out.2.1.alloc _,  AF3.new w3 P A V 24, True.intro⟩)
  obtain ⟨f00, f01, f02⟩ := cells3 H.out.2.1.ab
  obtain ⟨f10, f11, f12⟩ := cells3 H.out.2.2.1.ab
  go_wp2_with fail
  refine (toAcc_any p a v _).mono ?_
  rintro e w4 ⟨rfl, bb⟩
  have H := Lib.hid (show Below w.heap.size w w4 ∧ AF3 w4 w.heap.size p a v ∧ AF3 w4 w3.heap.size P A V ∧  True from ⟨below_step H.out.1 bb, H.out.2.1.below bb, H.out.2.2.1.below bb,  True.intro⟩)
  clear bb
  first | clear f00 f01 f02 f10 f11 f12 | skip
  obtain ⟨f00, f01, f02⟩ := cells3 H.out.2.1.ab
  obtain ⟨f10, f11, f12⟩ := cells3 H.out.2.2.1.ab
  go_wp2_with fail
  refine (iAAcc_any p a v b c _).mono ?_
  rintro e w5 ⟨rfl, bb⟩
  have H := Lib.hid (show Below w.heap.size w w5 ∧ AF3 w5 w.heap.size p a v ∧ AF3 w5 w3.heap.size P A V ∧  True from ⟨below_step H.out.1 bb, H.out.2.1.below bb, H.out.2.2.1.below bb,  True.intro⟩)
  clear bb
  first | clear f00 f01 f02 f10 f11 f12 | skip
  rw [← HR.out]
  simp only [Ac.val, AVal]
  have H := Lib.hid (show Below w.heap.size w (w5.alloc (.cells #[.int .i64 P, .int .i64 A, .int .i64 V] 24)) ∧ AF3 (w5.alloc (.cells #[.int .i64 P, .int .i64 A, .int .i64 V] 24)) w.heap.size p a v ∧ AF3 (w5.alloc (.cells #[.int .i64 P, .int .i64 A, .int .i64 V] 24)) w3.heap.size P A V ∧  AF3 (w5.alloc (.cells #[.int .i64 P, .int .i64 A, .int .i64 V] 24)) w5.heap.size P A V ∧ True from ⟨H.out.1.alloc H.out.1.size _, H.out.2.1.alloc _, H.out.2.2.1.alloc _,  AF3.new w5 P A V 24, True.intro⟩)
  obtain ⟨f00, f01, f02⟩ := cells3 H.out.2.1.ab
  obtain ⟨f10, f11, f12⟩ := cells3 H.out.2.2.1.ab
  obtain ⟨f20, f21, f22⟩ := cells3 H.out.2.2.2.1.ab
  go_wp2_with fail
  refine (eqAcc_same P A V _).mono ?_
  rintro e w6 ⟨rfl, bb⟩
  have H := Lib.hid (show Below w.heap.size w w6 ∧ AF3 w6 w.heap.size p a v ∧ AF3 w6 w3.heap.size P A V ∧ AF3 w6 w5.heap.size P A V ∧  True from ⟨below_step H.out.1 bb, H.out.2.1.below bb, H.out.2.2.1.below bb, H.out.2.2.2.1.below bb,  True.intro⟩)
  clear bb
  first | clear f00 f01 f02 f10 f11 f12 f20 f21 f22 | skip
  obtain ⟨f00, f01, f02⟩ := cells3 H.out.2.1.ab
  obtain ⟨f10, f11, f12⟩ := cells3 H.out.2.2.1.ab
  obtain ⟨f20, f21, f22⟩ := cells3 H.out.2.2.2.1.ab
  go_wp2
  go_ret
  exact ⟨rfl, H.out.1⟩

set_option maxRecDepth 100000 in
set_option maxHeartbeats 3200000 in
theorem walkExactChoose (A : Option Addr) (c : Nat) (l : List Ac) (own : Int) (w : World) (ha : AL w A l) (hm : l.length ≤ maxLen) :
    Calls Try.prog 15 #[.slice A l.length c, .int .i64 own] w fun e w' => e = .returned (.bool true) ∧ Below w.heap.size w w' := by
  obtain ⟨⟨r, t⟩, hr⟩ : ∃ r, r = chv l own := ⟨_, rfl⟩
  have HR := Lib.hid hr
  clear hr
  go_enter Try.func15, Try.ntmps15
  go_wp2_with fail
  refine (szAcc_any _ _ _ _ hm).mono ?_
  rintro e w1 ⟨z, rfl, hz, rfl⟩
  by_cases hl : l.length ≤ 1048576
  · have z0 := hz.2 hl
    have hl1 : l.length ≤ 1048577 := Nat.le_trans hl (by decide)
    clear hz hm
    go_wp2_with fail
    refine (toAccS_any _ _ _ _ ha hl).mono ?_
    rintro e w2 ⟨rfl, a2, b2⟩
    go_wp2_with fail
    refine (sChoose_any _ _ _ own _ a2 hl1).mono ?_
    rintro e w3 ⟨rfl, b3⟩
    rw [← HR.out]
    have B3 := below_step b2 b3
    have ha3 := ha.below B3
    clear a2 b2 b3
    go_wp2_with fail
    refine (toAccS_any _ _ _ _ ha3 hl).mono ?_
    rintro e w4 ⟨rfl, a4, b4⟩
    have B4 := below_step B3 b4
    clear B3
    go_wp2_with fail
    refine (iChoose_any _ _ _ own _ a4 hl1).mono ?_
    rintro e w5 ⟨rfl, b5⟩
    rw [← HR.out]
    have B5 := below_step B4 b5
    have a5 := a4.below b5
    have ha5 := ha.below B5
    clear a4 b4 b5 B4 ha3
    go_wp2_with fail
    refine (toAccS_any _ _ _ _ ha5 hl).mono ?_
    rintro e w6 ⟨rfl, a6, b6⟩
    have a56 := a5.below b6
    have B6 := below_step B5 b6
    clear a5 B5 b6 ha5
    go_wp2_with fail
    refine (eqAccS_yes _ _ _ _ _ _ a56 a6 hl).mono ?_
    rintro e w7 ⟨rfl, b7⟩
    have B7 := below_step B6 b7
    clear a56 a6 b7 B6 ha
    go_wp2
    go_ret
    exact ⟨rfl, B7⟩
  · have z0 : z < 0 := by
      rcases Int.lt_or_le z 0 with h | h
      · exact h
      · exact absurd (hz.1 h) hl
    clear hz hm ha
    go_wp2
    go_ret
    exact ⟨rfl, Below.refl _ _⟩
end Go.Proofs.Ytndgmglelogegaa
