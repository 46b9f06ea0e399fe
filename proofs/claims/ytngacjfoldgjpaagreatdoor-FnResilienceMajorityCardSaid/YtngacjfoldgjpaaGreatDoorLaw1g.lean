/- Helpers of the laws by their contracts: comparing two slices, a set derived from a number, the drawn pairs. -/
import Derived.Test.YtngacjfoldgjpaaGreatDoorGa
import Derived.Test.YtngacjfoldgjpaaGreatDoorGb
namespace Go.Proofs.YtngacjfoldgjpaaGreatDoor
open Go.RowKit

theorem same_step {l m : List Int} {k : Nat} {x : Int} (h : l.take k = m.take k) (hl : l[k]? = some x) (hm : m[k]? = some x) : l.take (k + 1) = m.take (k + 1) := by
  rw [List.take_add_one, List.take_add_one, h, hl, hm]
theorem same_no {l m : List Int} {k : Nat} {x y : Int} (hl : l[k]? = some x) (hm : m[k]? = some y) (h : x ≠ y) : same l m = false :=
  same_f (by rintro rfl; rw [hl] at hm; injection hm with hm; exact h hm)

/-- The mask that a number gives. -/
def nmask (n : Nat) : Nat := n * 37 % 64
theorem nmask_lt (n : Nat) : nmask n < 64 := Nat.mod_lt _ (by decide)
theorem memR_nat {m : Nat} (h : m < 64) : memR (m : Int) = mem m := by unfold memR; rw [if_pos ⟨by omega, by omega⟩]; rfl
theorem bothI_len (a b : List Int) (h : a.length ≤ 7) : (both inter a b).length ≤ 7 := by
  unfold both; split
  · exact Nat.le_trans (inter_len a b) h
  · simp
end Go.Proofs.YtngacjfoldgjpaaGreatDoor
