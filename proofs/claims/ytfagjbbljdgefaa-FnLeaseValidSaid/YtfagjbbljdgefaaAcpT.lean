/- Acceptors: the transitions, the program's and the model's, by their contracts. -/
import Derived.Test.YtfagjbbljdgefaaAcp
namespace Go.Proofs.Ytfagjbbljdgefaa
open Go.RowKit

/-- A state, whether something changed. -/
abbrev Ac := Int × Int × Int
def Ac.val (x : Ac) : Value := AVal x.1 x.2.1 x.2.2
def Ac.ok (x : Ac) : Bool := okA x.1 x.2.1 x.2.2
def prepA (x : Ac) (b : Int) : Ac × Bool := if b ≤ x.1 then (x, false) else ((b, x.2.1, x.2.2), true)
def acceA (x : Ac) (b v : Int) : Ac × Bool := if b < x.1 then (x, false) else ((b, b, v), true)
def aPrep (x : Ac) (b : Int) : Ac × Bool := if x.ok && okB b then prepA x b else ((0, 0, 0), false)
def aAcc (x : Ac) (b v : Int) : Ac × Bool := if x.ok && okB b && okV v then acceA x b v else ((0, 0, 0), false)
/-- A state and a flag, handed back. -/
def Said3 (w : World) (r : Ac × Bool) (e : Ending) (w' : World) : Prop := e = .returned (.tuple #[r.1.val, .bool r.2]) ∧ Below w.heap.size w w'
theorem cells3 {w : World} {b : Nat} {p a v : Int} (h : AB3 w b p a v) : w.cell? ⟨b, 0, none⟩ = some (.int .i64 p) ∧ w.cell? ⟨b, 1, none⟩ = some (.int .i64 a) ∧ w.cell? ⟨b, 2, none⟩ = some (.int .i64 v) := by
  obtain ⟨T, q, h⟩ := h
  exact ⟨by rw [cell_of_row w b 0 _ _ q h]; rfl, by rw [cell_of_row w b 1 _ _ q h]; rfl, by rw [cell_of_row w b 2 _ _ q h]; rfl⟩
theorem new3 {w : World} {n : Nat} {p a v : Int} {T : Nat} (hn : n = w.heap.size) : (w.alloc (.cells #[.int .i64 p, .int .i64 a, .int .i64 v] T)).cell? ⟨n, 0, none⟩ = some (.int .i64 p) ∧ (w.alloc (.cells #[.int .i64 p, .int .i64 a, .int .i64 v] T)).cell? ⟨n, 1, none⟩ = some (.int .i64 a) ∧ (w.alloc (.cells #[.int .i64 p, .int .i64 a, .int .i64 v] T)).cell? ⟨n, 2, none⟩ = some (.int .i64 v) := by
  subst hn
  exact cells3 ⟨_, _, heap_alloc_new w _⟩

end Go.Proofs.Ytfagjbbljdgefaa
