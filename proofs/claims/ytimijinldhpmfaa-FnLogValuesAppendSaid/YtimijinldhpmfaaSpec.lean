/- The reference model's set functions by their contracts. -/
import Derived.Test.YtimijinldhpmfaaBits
namespace Go.Proofs.Ytimijinldhpmfaa
open Go.RowKit

set_option maxRecDepth 100000 in
set_option maxHeartbeats 400000 in
theorem l6In_yes (n a b : Int) (w : World) (h1 : a ≤ n) (h2 : n ≤ b) :
    Calls Try.prog 50 #[.int .i64 n, .int .i64 a, .int .i64 b] w fun e w' => e = .returned (.bool true) ∧ w' = w := by
  go_enter Try.func50, Try.ntmps50
  go_wp2
  go_ret
  exact ⟨rfl, rfl⟩
set_option maxRecDepth 100000 in
set_option maxHeartbeats 400000 in
theorem l6In_no (n a b : Int) (w : World) (h : n < a ∨ b < n) :
    Calls Try.prog 50 #[.int .i64 n, .int .i64 a, .int .i64 b] w fun e w' => e = .returned (.bool false) ∧ w' = w := by
  by_cases h1 : a ≤ n
  · have hd : decide (a ≤ n) = true := by simp; omega
    have hd2 : decide (n ≤ b) = false := by simp; omega
    go_enter Try.func50, Try.ntmps50
    go_wp2
    go_ret
    exact ⟨rfl, rfl⟩
  · have hd : decide (a ≤ n) = false := by simp; omega
    go_enter Try.func50, Try.ntmps50
    go_wp2
    go_ret
    exact ⟨rfl, rfl⟩

/-- What the scan of SetValid knows of the last member. -/
def Last (l : List Int) (k : Nat) (q : Int) : Prop := (k = 0 ∧ q = 0) ∨ ∃ j, k = j + 1 ∧ l[j]? = some q
theorem vf_step {l : List Int} {k : Nat} {q x : Int} {b : Bool} (hx : l[k]? = some x) (h : vf q (l.drop k) = b) (h1 : q < x) (h2 : x ≤ 6) : vf x (l.drop (k + 1)) = b := by
  rw [drop_at hx] at h
  simpa [vf, h1, h2] using h
theorem vf_stop {l : List Int} {k : Nat} {q x : Int} {b : Bool} (hx : l[k]? = some x) (h : vf q (l.drop k) = b) (h1 : ¬ (q < x ∧ x ≤ 6)) : b = false := by
  rw [drop_at hx] at h
  simp only [vf] at h
  rw [← h]
  have : (decide (q < x) && decide (x ≤ 6)) = false := by simp; omega
  rw [this]; rfl
theorem vf_end {l : List Int} {q : Int} {b : Bool} (h : vf q (l.drop l.length) = b) : b = true := by
  simpa [vf] using h.symm

end Go.Proofs.Ytimijinldhpmfaa
