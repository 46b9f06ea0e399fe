/- Acceptors: states, the program's and the model's checks and transitions, by their contracts. -/
import Derived.Test.YtndgmglelogegaaCore
import Derived.Laws.ResultCell
namespace Go.Proofs.Ytndgmglelogegaa
open Go.RowKit

/-- A state that an acceptor can have. -/
def okA (p a v : Int) : Bool := decide (0 ≤ a ∧ a ≤ p ∧ p ≤ 20 ∧ ((a = 0 ∧ v = 0) ∨ (0 < a ∧ 1 ≤ v ∧ v ≤ 99)))
def AVal (p a v : Int) : Value := .agg #[.int .i64 p, .int .i64 a, .int .i64 v]
def okB (b : Int) : Bool := decide (1 ≤ b ∧ b ≤ 20)
def okV (v : Int) : Bool := decide (1 ≤ v ∧ v ≤ 99)
/-- A state in memory. -/
def AB3 (w : World) (b : Nat) (p a v : Int) : Prop := ∃ T q, w.heap[b]? = some (.cells #[.int .i64 p, .int .i64 a, .int .i64 v] T q)

theorem isBallot_any (b : Int) (w : World) :
    Calls Try.prog 37 #[.int .i64 b] w fun e w' => e = .returned (.bool (okB b)) ∧ w = w' := by
  by_cases h1 : 1 ≤ b
  · by_cases h2 : b ≤ 20
    · have e1 : decide (1 ≤ b) = true := by simpa using h1
      have e2 : decide (b ≤ 20) = true := by simpa using h2
      have e : okB b = true := by simp [okB]; omega
      rw [e]; clear e h1 h2
      go_enter Try.func37, Try.ntmps37
      go_wp2
      go_ret
      exact ⟨by simp_all, rfl⟩
    · have e1 : decide (1 ≤ b) = true := by simpa using h1
      have e2 : decide (b ≤ 20) = false := by simpa using h2
      have e : okB b = false := by simp [okB]; omega
      rw [e]; clear e h1 h2
      go_enter Try.func37, Try.ntmps37
      go_wp2
      go_ret
      exact ⟨by simp_all, rfl⟩
  · have e1 : decide (1 ≤ b) = false := by simpa using h1
    have e : okB b = false := by simp [okB]; omega
    rw [e]; clear e h1
    go_enter Try.func37, Try.ntmps37
    go_wp2
    go_ret
    exact ⟨by simp_all, rfl⟩
theorem isValue_any (b : Int) (w : World) :
    Calls Try.prog 41 #[.int .i64 b] w fun e w' => e = .returned (.bool (okV b)) ∧ w = w' := by
  by_cases h1 : 1 ≤ b
  · by_cases h2 : b ≤ 99
    · have e1 : decide (1 ≤ b) = true := by simpa using h1
      have e2 : decide (b ≤ 99) = true := by simpa using h2
      have e : okV b = true := by simp [okV]; omega
      rw [e]; clear e h1 h2
      go_enter Try.func41, Try.ntmps41
      go_wp2
      go_ret
      exact ⟨by simp_all, rfl⟩
    · have e1 : decide (1 ≤ b) = true := by simpa using h1
      have e2 : decide (b ≤ 99) = false := by simpa using h2
      have e : okV b = false := by simp [okV]; omega
      rw [e]; clear e h1 h2
      go_enter Try.func41, Try.ntmps41
      go_wp2
      go_ret
      exact ⟨by simp_all, rfl⟩
  · have e1 : decide (1 ≤ b) = false := by simpa using h1
    have e : okV b = false := by simp [okV]; omega
    rw [e]; clear e h1
    go_enter Try.func41, Try.ntmps41
    go_wp2
    go_ret
    exact ⟨by simp_all, rfl⟩
theorem l6In_any (n a b : Int) (w : World) :
    Calls Try.prog 36 #[.int .i64 n, .int .i64 a, .int .i64 b] w fun e w' => e = .returned (.bool (decide (a ≤ n ∧ n ≤ b))) ∧ w = w' := by
  by_cases h1 : a ≤ n
  · by_cases h2 : n ≤ b
    · have e1 : decide (a ≤ n) = true := by simpa using h1
      have e2 : decide (n ≤ b) = true := by simpa using h2
      have e : decide (a ≤ n ∧ n ≤ b) = true := by simp; omega
      rw [e]; clear e h1 h2
      go_enter Try.func36, Try.ntmps36
      go_wp2
      go_ret
      exact ⟨by simp_all, rfl⟩
    · have e1 : decide (a ≤ n) = true := by simpa using h1
      have e2 : decide (n ≤ b) = false := by simpa using h2
      have e : decide (a ≤ n ∧ n ≤ b) = false := by simp; omega
      rw [e]; clear e h1 h2
      go_enter Try.func36, Try.ntmps36
      go_wp2
      go_ret
      exact ⟨by simp_all, rfl⟩
  · have e1 : decide (a ≤ n) = false := by simpa using h1
    have e : decide (a ≤ n ∧ n ≤ b) = false := by simp; omega
    rw [e]; clear e h1
    go_enter Try.func36, Try.ntmps36
    go_wp2
    go_ret
    exact ⟨by simp_all, rfl⟩
theorem l21Value_any (v : Int) (w : World) :
    Calls Try.prog 40 #[.int .i64 v] w fun e w' => e = .returned (.bool (okV v)) ∧ w = w' := by
  obtain ⟨t, ht⟩ : ∃ t, t = okV v := ⟨_, rfl⟩
  rw [← ht]
  have HT := Lib.hid (show decide (1 ≤ v ∧ v ≤ 99) = t from ht.symm)
  clear ht
  go_enter Try.func40, Try.ntmps40
  go_wp2_with fail
  refine (l6In_any _ _ _ _).mono ?_
  rintro e w1 ⟨rfl, rfl⟩
  rw [HT.out]
  go_wp2
  go_ret
  exact ⟨rfl, rfl⟩
theorem impValid_any (p a v : Int) (w : World) :
    Calls Try.prog 20 #[AVal p a v] w fun e w' => e = .returned (.bool (okA p a v)) ∧ Below w.heap.size w w' := by
  by_cases h1 : a < 0
  · have e1 : decide (a < 0) = true := by simpa using h1
    have e : okA p a v = false := by simp [okA]; omega
    rw [e]; clear e h1
    unfold AVal
    go_enter Try.func20, Try.ntmps20
    go_wp2
    go_ret
    exact ⟨by simp_all, (Below.refl _ w).alloc (Nat.le_refl _) _⟩
  have e1 : decide (a < 0) = false := by simpa using h1
  by_cases h2 : p < a
  · have e2 : decide (p < a) = true := by simpa using h2
    have e : okA p a v = false := by simp [okA]; omega
    rw [e]; clear e h1 h2
    unfold AVal
    go_enter Try.func20, Try.ntmps20
    go_wp2
    go_ret
    exact ⟨by simp_all, (Below.refl _ w).alloc (Nat.le_refl _) _⟩
  have e2 : decide (p < a) = false := by simpa using h2
  by_cases h3 : 20 < p
  · have e3 : decide (20 < p) = true := by simpa using h3
    have e : okA p a v = false := by simp [okA]; omega
    rw [e]; clear e h1 h2 h3
    unfold AVal
    go_enter Try.func20, Try.ntmps20
    go_wp2
    go_ret
    exact ⟨by simp_all, (Below.refl _ w).alloc (Nat.le_refl _) _⟩
  have e3 : decide (20 < p) = false := by simpa using h3
  by_cases h4 : a = 0
  · have e : okA p a v = (v == 0) := by rw [Bool.eq_iff_iff]; simp [okA]; omega
    rw [e]
    have e4 : (a == 0) = true := by simpa using h4
    clear e h1 h2 h3 h4
    unfold AVal
    generalize hz : (v == 0) = z
    go_enter Try.func20, Try.ntmps20
    go_wp2
    go_ret
    exact ⟨by simp_all, (Below.refl _ w).alloc (Nat.le_refl _) _⟩
  · have e : okA p a v = okV v := by rw [Bool.eq_iff_iff]; simp [okA, okV]; omega
    rw [e]
    obtain ⟨t, ht⟩ : ∃ t, t = okV v := ⟨_, rfl⟩
    rw [← ht]
    have HT := Lib.hid ht.symm
    clear ht
    have e4 : (a == 0) = false := by simpa using h4
    clear e h1 h2 h3 h4
    unfold AVal
    go_enter Try.func20, Try.ntmps20
    go_wp2_with fail
    refine (isValue_any _ _).mono ?_
    rintro e w1 ⟨rfl, rfl⟩
    rw [HT.out]
    go_wp2
    go_ret
    exact ⟨by simp_all, (Below.refl _ w).alloc (Nat.le_refl _) _⟩
end Go.Proofs.Ytndgmglelogegaa
