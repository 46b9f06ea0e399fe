/- The program's set functions by their contracts. -/
import Derived.Test.YthgfhnjdefbdfaaBits
namespace Go.Proofs.Ythgfhnjdefbdfaa
open Go.RowKit

set_option maxHeartbeats 400000 in
theorem implValid_any (A : Option Addr) (c : Nat) (l : List Int) (w : World) (ha : IL w A l) (hl : l.length ≤ 1048576) :
    Calls Try.prog 13 #[.slice A l.length c] w fun e w' => e = .returned (.bool (vld l)) ∧ w = w' := by
  cases hv : vld l
  · go_enter Try.func13, Try.ntmps13
    go_wp2_with (go_at_call 32; refine (bitsOf_no _ _ _ _ ha hv hl).mono ?_; rintro e w' ⟨rfl, rfl⟩)
    go_ret
    exact ⟨rfl, rfl⟩
  · go_enter Try.func13, Try.ntmps13
    go_wp2_with (go_at_call 32; refine (bitsOf_yes _ _ _ _ ha hv).mono ?_; rintro e w' ⟨rfl, rfl⟩)
    go_ret
    exact ⟨rfl, rfl⟩
end Go.Proofs.Ythgfhnjdefbdfaa
