/- The program's set functions by their contracts. -/
import Derived.Test.YtdfhglobfehpiaaDoorBits
namespace Go.Proofs.YtdfhglobfehpiaaDoor
open Go.RowKit

set_option maxRecDepth 100000 in
set_option maxHeartbeats 400000 in
theorem implValid_any (A : Option Addr) (c : Nat) (l : List Int) (w : World) (ha : IL w A l) (hl : l.length ≤ 1048576) :
    Calls Tryd.prog 15 #[.slice A l.length c] w fun e w' => e = .returned (.bool (vld l)) ∧ w = w' := by
  cases hv : vld l
  · go_enter Tryd.func15, Tryd.ntmps15
    go_wp2_with (go_at_call 22; refine (bitsOf_no _ _ _ _ ha hv hl).mono ?_; rintro e w' ⟨rfl, rfl⟩)
    go_ret
    exact ⟨rfl, rfl⟩
  · go_enter Tryd.func15, Tryd.ntmps15
    go_wp2_with (go_at_call 22; refine (bitsOf_yes _ _ _ _ ha hv).mono ?_; rintro e w' ⟨rfl, rfl⟩)
    go_ret
    exact ⟨rfl, rfl⟩

theorem or_two {s t : Nat} (hs : s < 64) (ht : t < 64) : bits .or .u8 (s : Int) (t : Int) = (((s ||| t) : Nat) : Int) ∧ (s ||| t) < 64 := by
  have H : ∀ s t : Fin 64, bits .or .u8 (s.val : Int) (t.val : Int) = (((s.val ||| t.val) : Nat) : Int) ∧ (s.val ||| t.val) < 64 := by decide +kernel
  exact H ⟨s, hs⟩ ⟨t, ht⟩

theorem and_two {s t : Nat} (hs : s < 64) (ht : t < 64) : bits .and .u8 (s : Int) (t : Int) = (((s &&& t) : Nat) : Int) ∧ (s &&& t) < 64 := by
  have H : ∀ s t : Fin 64, bits .and .u8 (s.val : Int) (t.val : Int) = (((s.val &&& t.val) : Nat) : Int) ∧ (s.val &&& t.val) < 64 := by decide +kernel
  exact H ⟨s, hs⟩ ⟨t, ht⟩

theorem andNot_two {s t : Nat} (hs : s < 64) (ht : t < 64) : bits .andNot .u8 (s : Int) (t : Int) = ((andNot s t : Nat) : Int) ∧ andNot s t < 64 := by
  have H : ∀ s t : Fin 64, bits .andNot .u8 (s.val : Int) (t.val : Int) = ((andNot s.val t.val : Nat) : Int) ∧ andNot s.val t.val < 64 := by decide +kernel
  exact H ⟨s, hs⟩ ⟨t, ht⟩

end Go.Proofs.YtdfhglobfehpiaaDoor
