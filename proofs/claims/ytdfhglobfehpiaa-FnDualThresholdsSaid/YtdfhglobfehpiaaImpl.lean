/- The program's set functions by their contracts. -/
import Derived.Test.YtdfhglobfehpiaaBits
namespace Go.Proofs.Ytdfhglobfehpiaa
open Go.RowKit

theorem or_two {s t : Nat} (hs : s < 64) (ht : t < 64) : bits .or .u8 (s : Int) (t : Int) = (((s ||| t) : Nat) : Int) ∧ (s ||| t) < 64 := by
  have H : ∀ s t : Fin 64, bits .or .u8 (s.val : Int) (t.val : Int) = (((s.val ||| t.val) : Nat) : Int) ∧ (s.val ||| t.val) < 64 := by decide +kernel
  exact H ⟨s, hs⟩ ⟨t, ht⟩

theorem and_two {s t : Nat} (hs : s < 64) (ht : t < 64) : bits .and .u8 (s : Int) (t : Int) = (((s &&& t) : Nat) : Int) ∧ (s &&& t) < 64 := by
  have H : ∀ s t : Fin 64, bits .and .u8 (s.val : Int) (t.val : Int) = (((s.val &&& t.val) : Nat) : Int) ∧ (s.val &&& t.val) < 64 := by decide +kernel
  exact H ⟨s, hs⟩ ⟨t, ht⟩

theorem andNot_two {s t : Nat} (hs : s < 64) (ht : t < 64) : bits .andNot .u8 (s : Int) (t : Int) = ((andNot s t : Nat) : Int) ∧ andNot s t < 64 := by
  have H : ∀ s t : Fin 64, bits .andNot .u8 (s.val : Int) (t.val : Int) = ((andNot s.val t.val : Nat) : Int) ∧ andNot s.val t.val < 64 := by decide +kernel
  exact H ⟨s, hs⟩ ⟨t, ht⟩

set_option maxRecDepth 100000 in
set_option maxHeartbeats 400000 in
theorem union_bits (s t : Nat) (w : World) (hs : s < 64) (ht : t < 64) :
    Calls Try.prog 51 #[.int .u8 s, .int .u8 t] w fun e w' => e = .returned (.int .u8 (s ||| t : Nat)) ∧ w = w' := by
  have HB := Lib.hid (or_two hs ht).1
  go_enter Try.func51, Try.ntmps51
  go_wp2
  go_ret
  exact ⟨ret_int HB.out, rfl⟩

end Go.Proofs.Ytdfhglobfehpiaa
