/- The walks of chapter 23's laws. -/
import Derived.Test.YtfagjbbljdgefaaLp
import Derived.Test.YtfagjbbljdgefaaLq
namespace Go.Proofs.Ytfagjbbljdgefaa
open Go.RowKit

set_option maxRecDepth 100000 in
set_option maxHeartbeats 3200000 in
theorem walkExactLeaseValid (p a v : Int) (w : World) :
    Calls Try.prog 11 #[AVal p a v] w fun e w' => e = .returned (.bool true) ∧ Below w.heap.size w w' := by
  have H := Lib.hid (show Below w.heap.size w (w.alloc (.cells #[.int .i64 p, .int .i64 a, .int .i64 v] 36)) ∧ AF3 (w.alloc (.cells #[.int .i64 p, .int .i64 a, .int .i64 v] 36)) w.heap.size p a v ∧ True from ⟨(Below.refl _ w).alloc (Nat.le_refl _) _, AF3.new w p a v 36, True.intro⟩)
  obtain ⟨f00, f01, f02⟩ := cells3 H.out.2.1.ab
  obtain ⟨t, ht⟩ : ∃ t, t = lsOk p a v := ⟨_, rfl⟩
  have HT := Lib.hid ht
  clear ht
  unfold AVal
  go_enter Try.func11, Try.ntmps11
  go_wp2_with fail
  refine (toLs_any p a v _).mono ?_
  rintro e w2 ⟨rfl, bb⟩
  have H := Lib.hid (show Below w.heap.size w w2 ∧ AF3 w2 w.heap.size p a v ∧  True from ⟨below_step H.out.1 bb, H.out.2.1.below bb,  True.intro⟩)
  clear bb
  first | clear f00 f01 f02 | skip
  go_wp2_with fail
  refine (sLsValid_any p a v _).mono ?_
  rintro e w3 ⟨rfl, bb⟩
  have H := Lib.hid (show Below w.heap.size w w3 ∧ AF3 w3 w.heap.size p a v ∧  True from ⟨below_step H.out.1 bb, H.out.2.1.below bb,  True.intro⟩)
  clear bb
  first | clear f00 f01 f02 | skip
  rw [← HT.out]
  obtain ⟨f00, f01, f02⟩ := cells3 H.out.2.1.ab
  go_wp2_with fail
  refine (toLs_any p a v _).mono ?_
  rintro e w4 ⟨rfl, bb⟩
  have H := Lib.hid (show Below w.heap.size w w4 ∧ AF3 w4 w.heap.size p a v ∧  True from ⟨below_step H.out.1 bb, H.out.2.1.below bb,  True.intro⟩)
  clear bb
  first | clear f00 f01 f02 | skip
  go_wp2_with fail
  refine (iLsValid_any p a v _).mono ?_
  rintro e w5 ⟨rfl, bb⟩
  have H := Lib.hid (show Below w.heap.size w w5 ∧ AF3 w5 w.heap.size p a v ∧  True from ⟨below_step H.out.1 bb, H.out.2.1.below bb,  True.intro⟩)
  clear bb
  first | clear f00 f01 f02 | skip
  rw [← HT.out]
  go_wp2
  go_ret
  exact ⟨rfl, H.out.1⟩

set_option maxRecDepth 100000 in
set_option maxHeartbeats 3200000 in
theorem walkExactLeaseActive (p a v now d : Int) (w : World) :
    Calls Try.prog 12 #[AVal p a v, .int .i64 now, .int .i64 d] w fun e w' => e = .returned (.bool true) ∧ Below w.heap.size w w' := by
  have H := Lib.hid (show Below w.heap.size w (w.alloc (.cells #[.int .i64 p, .int .i64 a, .int .i64 v] 36)) ∧ AF3 (w.alloc (.cells #[.int .i64 p, .int .i64 a, .int .i64 v] 36)) w.heap.size p a v ∧ True from ⟨(Below.refl _ w).alloc (Nat.le_refl _) _, AF3.new w p a v 36, True.intro⟩)
  obtain ⟨f00, f01, f02⟩ := cells3 H.out.2.1.ab
  obtain ⟨t, ht⟩ : ∃ t, t = lAct p a v now d := ⟨_, rfl⟩
  have HT := Lib.hid ht
  clear ht
  unfold AVal
  go_enter Try.func12, Try.ntmps12
  go_wp2_with fail
  refine (toLs_any p a v _).mono ?_
  rintro e w2 ⟨rfl, bb⟩
  have H := Lib.hid (show Below w.heap.size w w2 ∧ AF3 w2 w.heap.size p a v ∧  True from ⟨below_step H.out.1 bb, H.out.2.1.below bb,  True.intro⟩)
  clear bb
  first | clear f00 f01 f02 | skip
  go_wp2_with fail
  refine (sLsAct_any p a v now d _).mono ?_
  rintro e w3 ⟨rfl, bb⟩
  have H := Lib.hid (show Below w.heap.size w w3 ∧ AF3 w3 w.heap.size p a v ∧  True from ⟨below_step H.out.1 bb, H.out.2.1.below bb,  True.intro⟩)
  clear bb
  first | clear f00 f01 f02 | skip
  rw [← HT.out]
  obtain ⟨f00, f01, f02⟩ := cells3 H.out.2.1.ab
  go_wp2_with fail
  refine (toLs_any p a v _).mono ?_
  rintro e w4 ⟨rfl, bb⟩
  have H := Lib.hid (show Below w.heap.size w w4 ∧ AF3 w4 w.heap.size p a v ∧  True from ⟨below_step H.out.1 bb, H.out.2.1.below bb,  True.intro⟩)
  clear bb
  first | clear f00 f01 f02 | skip
  go_wp2_with fail
  refine (iLsAct_any p a v now d _).mono ?_
  rintro e w5 ⟨rfl, bb⟩
  have H := Lib.hid (show Below w.heap.size w w5 ∧ AF3 w5 w.heap.size p a v ∧  True from ⟨below_step H.out.1 bb, H.out.2.1.below bb,  True.intro⟩)
  clear bb
  first | clear f00 f01 f02 | skip
  rw [← HT.out]
  go_wp2
  go_ret
  exact ⟨rfl, H.out.1⟩

set_option maxRecDepth 100000 in
set_option maxHeartbeats 3200000 in
theorem walkExactLeaseExpired (p a v now d : Int) (w : World) :
    Calls Try.prog 13 #[AVal p a v, .int .i64 now, .int .i64 d] w fun e w' => e = .returned (.bool true) ∧ Below w.heap.size w w' := by
  have H := Lib.hid (show Below w.heap.size w (w.alloc (.cells #[.int .i64 p, .int .i64 a, .int .i64 v] 36)) ∧ AF3 (w.alloc (.cells #[.int .i64 p, .int .i64 a, .int .i64 v] 36)) w.heap.size p a v ∧ True from ⟨(Below.refl _ w).alloc (Nat.le_refl _) _, AF3.new w p a v 36, True.intro⟩)
  obtain ⟨f00, f01, f02⟩ := cells3 H.out.2.1.ab
  obtain ⟨t, ht⟩ : ∃ t, t = lExp p a v now d := ⟨_, rfl⟩
  have HT := Lib.hid ht
  clear ht
  unfold AVal
  go_enter Try.func13, Try.ntmps13
  go_wp2_with fail
  refine (toLs_any p a v _).mono ?_
  rintro e w2 ⟨rfl, bb⟩
  have H := Lib.hid (show Below w.heap.size w w2 ∧ AF3 w2 w.heap.size p a v ∧  True from ⟨below_step H.out.1 bb, H.out.2.1.below bb,  True.intro⟩)
  clear bb
  first | clear f00 f01 f02 | skip
  go_wp2_with fail
  refine (sLsExp_any p a v now d _).mono ?_
  rintro e w3 ⟨rfl, bb⟩
  have H := Lib.hid (show Below w.heap.size w w3 ∧ AF3 w3 w.heap.size p a v ∧  True from ⟨below_step H.out.1 bb, H.out.2.1.below bb,  True.intro⟩)
  clear bb
  first | clear f00 f01 f02 | skip
  rw [← HT.out]
  obtain ⟨f00, f01, f02⟩ := cells3 H.out.2.1.ab
  go_wp2_with fail
  refine (toLs_any p a v _).mono ?_
  rintro e w4 ⟨rfl, bb⟩
  have H := Lib.hid (show Below w.heap.size w w4 ∧ AF3 w4 w.heap.size p a v ∧  True from ⟨below_step H.out.1 bb, H.out.2.1.below bb,  True.intro⟩)
  clear bb
  first | clear f00 f01 f02 | skip
  go_wp2_with fail
  refine (iLsExp_any p a v now d _).mono ?_
  rintro e w5 ⟨rfl, bb⟩
  have H := Lib.hid (show Below w.heap.size w w5 ∧ AF3 w5 w.heap.size p a v ∧  True from ⟨below_step H.out.1 bb, H.out.2.1.below bb,  True.intro⟩)
  clear bb
  first | clear f00 f01 f02 | skip
  rw [← HT.out]
  go_wp2
  go_ret
  exact ⟨rfl, H.out.1⟩

set_option maxRecDepth 100000 in
set_option maxHeartbeats 3200000 in
theorem walkExactLeaseGrant (p a v h' now len d : Int) (w : World) :
    Calls Try.prog 14 #[AVal p a v, .int .i64 h', .int .i64 now, .int .i64 len, .int .i64 d] w fun e w' => e = .returned (.bool true) ∧ Below w.heap.size w w' := by
  obtain ⟨⟨⟨P, A, V⟩, t⟩, hr⟩ : ∃ r, r = lGr p a v h' now len d := ⟨_, rfl⟩
  have HR := Lib.hid hr
  clear hr
  have H := Lib.hid (show Below w.heap.size w (w.alloc (.cells #[.int .i64 p, .int .i64 a, .int .i64 v] 36)) ∧ AF3 (w.alloc (.cells #[.int .i64 p, .int .i64 a, .int .i64 v] 36)) w.heap.size p a v ∧ True from ⟨(Below.refl _ w).alloc (Nat.le_refl _) _, AF3.new w p a v 36, True.intro⟩)
  obtain ⟨f00, f01, f02⟩ := cells3 H.out.2.1.ab
  unfold AVal
  go_enter Try.func14, Try.ntmps14
  go_wp2_with fail
  refine (toLs_any p a v _).mono ?_
  rintro e w2 ⟨rfl, bb⟩
  have H := Lib.hid (show Below w.heap.size w w2 ∧ AF3 w2 w.heap.size p a v ∧  True from ⟨below_step H.out.1 bb, H.out.2.1.below bb,  True.intro⟩)
  clear bb
  first | clear f00 f01 f02 | skip
  go_wp2_with fail
  refine (sLsGr_any p a v h' now len d _).mono ?_
  rintro e w3 ⟨rfl, bb⟩
  have H := Lib.hid (show Below w.heap.size w w3 ∧ AF3 w3 w.heap.size p a v ∧  True from ⟨below_step H.out.1 bb, H.out.2.1.below bb,  True.intro⟩)
  clear bb
  first | clear f00 f01 f02 | skip
  rw [← HR.out]
  simp only [Ac.val, AVal]
  have H := Lib.hid (show Below w.heap.size w (w3.alloc (.cells #[.int .i64 P, .int .i64 A, .int .i64 V] 24)) ∧ AF3 (w3.alloc (.cells #[.int .i64 P, .int .i64 A, .int .i64 V] 24)) w.heap.size p a v ∧  AF3 (w3.alloc (.cells #[.int .i64 P, .int .i64 A, .int .i64 V] 24)) w3.heap.size P A V ∧ True from ⟨H.out.1.alloc H.out.1.size _, H.out.2.1.alloc _,  AF3.new w3 P A V 24, True.intro⟩)
  obtain ⟨f00, f01, f02⟩ := cells3 H.out.2.1.ab
  obtain ⟨f10, f11, f12⟩ := cells3 H.out.2.2.1.ab
  go_wp2_with fail
  refine (toLs_any p a v _).mono ?_
  rintro e w4 ⟨rfl, bb⟩
  have H := Lib.hid (show Below w.heap.size w w4 ∧ AF3 w4 w.heap.size p a v ∧ AF3 w4 w3.heap.size P A V ∧  True from ⟨below_step H.out.1 bb, H.out.2.1.below bb, H.out.2.2.1.below bb,  True.intro⟩)
  clear bb
  first | clear f00 f01 f02 f10 f11 f12 | skip
  obtain ⟨f00, f01, f02⟩ := cells3 H.out.2.1.ab
  obtain ⟨f10, f11, f12⟩ := cells3 H.out.2.2.1.ab
  go_wp2_with fail
  refine (iLsGr_any p a v h' now len d _).mono ?_
  rintro e w5 ⟨rfl, bb⟩
  have H := Lib.hid (show Below w.heap.size w w5 ∧ AF3 w5 w.heap.size p a v ∧ AF3 w5 w3.heap.size P A V ∧  True from ⟨below_step H.out.1 bb, H.out.2.1.below bb, H.out.2.2.1.below bb,  True.intro⟩)
  clear bb
  first | clear f00 f01 f02 f10 f11 f12 | skip
  rw [← HR.out]
  simp only [Ac.val, AVal]
  have H := Lib.hid (show Below w.heap.size w (w5.alloc (.cells #[.int .i64 P, .int .i64 A, .int .i64 V] 24)) ∧ AF3 (w5.alloc (.cells #[.int .i64 P, .int .i64 A, .int .i64 V] 24)) w.heap.size p a v ∧ AF3 (w5.alloc (.cells #[.int .i64 P, .int .i64 A, .int .i64 V] 24)) w3.heap.size P A V ∧  AF3 (w5.alloc (.cells #[.int .i64 P, .int .i64 A, .int .i64 V] 24)) w5.heap.size P A V ∧ True from ⟨H.out.1.alloc H.out.1.size _, H.out.2.1.alloc _, H.out.2.2.1.alloc _,  AF3.new w5 P A V 24, True.intro⟩)
  obtain ⟨f00, f01, f02⟩ := cells3 H.out.2.1.ab
  obtain ⟨f10, f11, f12⟩ := cells3 H.out.2.2.1.ab
  obtain ⟨f20, f21, f22⟩ := cells3 H.out.2.2.2.1.ab
  go_wp2_with fail
  refine (eqLs_same P A V _).mono ?_
  rintro e w6 ⟨rfl, bb⟩
  have H := Lib.hid (show Below w.heap.size w w6 ∧ AF3 w6 w.heap.size p a v ∧ AF3 w6 w3.heap.size P A V ∧ AF3 w6 w5.heap.size P A V ∧  True from ⟨below_step H.out.1 bb, H.out.2.1.below bb, H.out.2.2.1.below bb, H.out.2.2.2.1.below bb,  True.intro⟩)
  clear bb
  first | clear f00 f01 f02 f10 f11 f12 f20 f21 f22 | skip
  obtain ⟨f00, f01, f02⟩ := cells3 H.out.2.1.ab
  obtain ⟨f10, f11, f12⟩ := cells3 H.out.2.2.1.ab
  obtain ⟨f20, f21, f22⟩ := cells3 H.out.2.2.2.1.ab
  go_wp2
  go_ret
  exact ⟨rfl, H.out.1⟩
end Go.Proofs.Ytfagjbbljdgefaa
