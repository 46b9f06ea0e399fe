/- Acceptors: states, the program's and the model's checks and transitions, by their contracts. -/
import Derived.Test.YtimijinldhpmfaaCore
import Derived.Laws.ResultCell
namespace Go.Proofs.Ytimijinldhpmfaa
open Go.RowKit

/-- A state that an acceptor can have. -/
def okA (p a v : Int) : Bool := decide (0 ≤ a ∧ a ≤ p ∧ p ≤ 20 ∧ ((a = 0 ∧ v = 0) ∨ (0 < a ∧ 1 ≤ v ∧ v ≤ 99)))
def AVal (p a v : Int) : Value := .agg #[.int .i64 p, .int .i64 a, .int .i64 v]
def okB (b : Int) : Bool := decide (1 ≤ b ∧ b ≤ 20)
def okV (v : Int) : Bool := decide (1 ≤ v ∧ v ≤ 99)
/-- A state in memory. -/
def AB3 (w : World) (b : Nat) (p a v : Int) : Prop := ∃ T q, w.heap[b]? = some (.cells #[.int .i64 p, .int .i64 a, .int .i64 v] T q)

theorem isValue_any (b : Int) (w : World) :
    Calls Try.prog 59 #[.int .i64 b] w fun e w' => e = .returned (.bool (okV b)) ∧ w = w' := by
  by_cases h1 : 1 ≤ b
  · by_cases h2 : b ≤ 99
    · have e1 : decide (1 ≤ b) = true := by simpa using h1
      have e2 : decide (b ≤ 99) = true := by simpa using h2
      have e : okV b = true := by simp [okV]; omega
      rw [e]; clear e h1 h2
      go_enter Try.func59, Try.ntmps59
      go_wp2
      go_ret
      exact ⟨by simp_all, rfl⟩
    · have e1 : decide (1 ≤ b) = true := by simpa using h1
      have e2 : decide (b ≤ 99) = false := by simpa using h2
      have e : okV b = false := by simp [okV]; omega
      rw [e]; clear e h1 h2
      go_enter Try.func59, Try.ntmps59
      go_wp2
      go_ret
      exact ⟨by simp_all, rfl⟩
  · have e1 : decide (1 ≤ b) = false := by simpa using h1
    have e : okV b = false := by simp [okV]; omega
    rw [e]; clear e h1
    go_enter Try.func59, Try.ntmps59
    go_wp2
    go_ret
    exact ⟨by simp_all, rfl⟩
theorem l6In_any (n a b : Int) (w : World) :
    Calls Try.prog 50 #[.int .i64 n, .int .i64 a, .int .i64 b] w fun e w' => e = .returned (.bool (decide (a ≤ n ∧ n ≤ b))) ∧ w = w' := by
  by_cases h1 : a ≤ n
  · by_cases h2 : n ≤ b
    · have e1 : decide (a ≤ n) = true := by simpa using h1
      have e2 : decide (n ≤ b) = true := by simpa using h2
      have e : decide (a ≤ n ∧ n ≤ b) = true := by simp; omega
      rw [e]; clear e h1 h2
      go_enter Try.func50, Try.ntmps50
      go_wp2
      go_ret
      exact ⟨by simp_all, rfl⟩
    · have e1 : decide (a ≤ n) = true := by simpa using h1
      have e2 : decide (n ≤ b) = false := by simpa using h2
      have e : decide (a ≤ n ∧ n ≤ b) = false := by simp; omega
      rw [e]; clear e h1 h2
      go_enter Try.func50, Try.ntmps50
      go_wp2
      go_ret
      exact ⟨by simp_all, rfl⟩
  · have e1 : decide (a ≤ n) = false := by simpa using h1
    have e : decide (a ≤ n ∧ n ≤ b) = false := by simp; omega
    rw [e]; clear e h1
    go_enter Try.func50, Try.ntmps50
    go_wp2
    go_ret
    exact ⟨by simp_all, rfl⟩
theorem l21Value_any (v : Int) (w : World) :
    Calls Try.prog 60 #[.int .i64 v] w fun e w' => e = .returned (.bool (okV v)) ∧ w = w' := by
  obtain ⟨t, ht⟩ : ∃ t, t = okV v := ⟨_, rfl⟩
  rw [← ht]
  have HT := Lib.hid (show decide (1 ≤ v ∧ v ≤ 99) = t from ht.symm)
  clear ht
  go_enter Try.func60, Try.ntmps60
  go_wp2_with fail
  refine (l6In_any _ _ _ _).mono ?_
  rintro e w1 ⟨rfl, rfl⟩
  rw [HT.out]
  go_wp2
  go_ret
  exact ⟨rfl, rfl⟩
end Go.Proofs.Ytimijinldhpmfaa
