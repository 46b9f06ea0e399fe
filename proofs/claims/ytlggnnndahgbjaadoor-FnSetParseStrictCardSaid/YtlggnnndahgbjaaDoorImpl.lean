/- The program's set functions by their contracts. -/
import Derived.Test.YtlggnnndahgbjaaDoorBits
namespace Go.Proofs.YtlggnnndahgbjaaDoor
open Go.RowKit

set_option maxHeartbeats 400000 in
theorem implValid_any (A : Option Addr) (c : Nat) (l : List Int) (w : World) (ha : IL w A l) (hl : l.length ≤ 1048576) :
    Calls Tryd.prog 12 #[.slice A l.length c] w fun e w' => e = .returned (.bool (vld l)) ∧ w = w' := by
  cases hv : vld l
  · go_enter Tryd.func12, Tryd.ntmps12
    go_wp2_with (go_at_call 15; refine (bitsOf_no _ _ _ _ ha hv hl).mono ?_; rintro e w' ⟨rfl, rfl⟩)
    go_ret
    exact ⟨rfl, rfl⟩
  · go_enter Tryd.func12, Tryd.ntmps12
    go_wp2_with (go_at_call 15; refine (bitsOf_yes _ _ _ _ ha hv).mono ?_; rintro e w' ⟨rfl, rfl⟩)
    go_ret
    exact ⟨rfl, rfl⟩

theorem or_two {s t : Nat} (hs : s < 64) (ht : t < 64) : bits .or .u8 (s : Int) (t : Int) = (((s ||| t) : Nat) : Int) ∧ (s ||| t) < 64 := by
  have H : ∀ s t : Fin 64, bits .or .u8 (s.val : Int) (t.val : Int) = (((s.val ||| t.val) : Nat) : Int) ∧ (s.val ||| t.val) < 64 := by decide +kernel
  exact H ⟨s, hs⟩ ⟨t, ht⟩

theorem and_two {s t : Nat} (hs : s < 64) (ht : t < 64) : bits .and .u8 (s : Int) (t : Int) = (((s &&& t) : Nat) : Int) ∧ (s &&& t) < 64 := by
  have H : ∀ s t : Fin 64, bits .and .u8 (s.val : Int) (t.val : Int) = (((s.val &&& t.val) : Nat) : Int) ∧ (s.val &&& t.val) < 64 := by decide +kernel
  exact H ⟨s, hs⟩ ⟨t, ht⟩

theorem andNot_two {s t : Nat} (hs : s < 64) (ht : t < 64) : bits .andNot .u8 (s : Int) (t : Int) = ((andNot s t : Nat) : Int) ∧ andNot s t < 64 := by
  have H : ∀ s t : Fin 64, bits .andNot .u8 (s.val : Int) (t.val : Int) = ((andNot s.val t.val : Nat) : Int) ∧ andNot s.val t.val < 64 := by decide +kernel
  exact H ⟨s, hs⟩ ⟨t, ht⟩

set_option maxHeartbeats 400000 in
theorem minus_bits (s t : Nat) (w : World) (hs : s < 64) (ht : t < 64) :
    Calls Tryd.prog 36 #[.int .u8 s, .int .u8 t] w fun e w' => e = .returned (.int .u8 (andNot s t : Nat)) ∧ w = w' := by
  have HB := Lib.hid (andNot_two hs ht).1
  go_enter Tryd.func36, Tryd.ntmps36
  go_wp2
  go_ret
  exact ⟨ret_int HB.out, rfl⟩


set_option maxHeartbeats 400000 in
theorem subsetOf_bits (s t : Nat) (w : World) (hs : s < 64) (ht : t < 64) :
    Calls Tryd.prog 30 #[.int .u8 s, .int .u8 t] w fun e w' => e = .returned (.bool (andNot s t == 0)) ∧ w = w' := by
  have HE := Lib.hid (show (((andNot s t : Nat) : Int) == 0) = (andNot s t == 0) by rw [Bool.eq_iff_iff]; simp)
  go_enter Tryd.func30, Tryd.ntmps30
  go_wp2_with fail
  refine (minus_bits _ _ _ hs ht).mono ?_
  rintro e w' ⟨rfl, rfl⟩
  go_wp2
  go_ret
  exact ⟨ret_bool HE.out, rfl⟩
end Go.Proofs.YtlggnnndahgbjaaDoor
