/- Helpers of the laws by their contracts: comparing two slices, a set derived from a number, the drawn pairs. -/
import Derived.Test.YtmickonngpkoiaaDoorGa
import Derived.Test.YtmickonngpkoiaaDoorGb
namespace Go.Proofs.YtmickonngpkoiaaDoor
open Go.RowKit

theorem same_step {l m : List Int} {k : Nat} {x : Int} (h : l.take k = m.take k) (hl : l[k]? = some x) (hm : m[k]? = some x) : l.take (k + 1) = m.take (k + 1) := by
  rw [List.take_add_one, List.take_add_one, h, hl, hm]
theorem same_no {l m : List Int} {k : Nat} {x y : Int} (hl : l[k]? = some x) (hm : m[k]? = some y) (h : x ≠ y) : same l m = false :=
  same_f (by rintro rfl; rw [hl] at hm; injection hm with hm; exact h hm)

/-- The mask that a number gives. -/
def nmask (n : Nat) : Nat := n * 37 % 64
theorem nmask_lt (n : Nat) : nmask n < 64 := Nat.mod_lt _ (by decide)
theorem memR_nat {m : Nat} (h : m < 64) : memR (m : Int) = mem m := by unfold memR; rw [if_pos ⟨by omega, by omega⟩]; rfl
set_option maxRecDepth 100000 in
set_option maxHeartbeats 400000 in
theorem setOf_any (n : Nat) (w : World) (hn : n ≤ 1048576) : Calls Tryd.prog 7 #[.int .i64 n] w (New w (mem (nmask n))) := by
  have e1 : (n : Int) * 37 % 64 = ((nmask n : Nat) : Int) := by unfold nmask; omega
  have e2 : Int.tmod ((n : Int) * 37) 64 = ((nmask n : Nat) : Int) := by rw [Int.tmod_eq_emod_of_nonneg (by omega)]; exact e1
  go_enter Tryd.func7, Tryd.ntmps7
  go_wp2_with fail
  refine (implOfMask_any ((nmask n : Nat) : Int) _).mono ?_
  rw [memR_nat (nmask_lt n)]
  rintro e w1 ⟨A, c, rfl, o, b⟩
  have D := Lib.hid (show New w (mem (nmask n)) (.returned (.slice A (mem (nmask n)).length c)) w1 from ⟨A, c, rfl, o, b⟩)
  clear o b e1 e2
  go_wp2
  go_ret
  exact D.out

theorem bothI_len (a b : List Int) (h : a.length ≤ 7) : (both inter a b).length ≤ 7 := by
  unfold both; split
  · exact Nat.le_trans (inter_len a b) h
  · simp
end Go.Proofs.YtmickonngpkoiaaDoor
