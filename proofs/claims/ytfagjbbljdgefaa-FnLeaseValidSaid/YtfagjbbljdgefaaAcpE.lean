/- Acceptors drawn with a ballot or with a value, by their contracts. -/
import Derived.Test.YtfagjbbljdgefaaAcpD
namespace Go.Proofs.Ytfagjbbljdgefaa
open Go.RowKit

/-- While a state is drawn with more: the reader, the place for the result. -/
def E3 (w : World) (g q : Nat) (wr : World) : Prop := w.heap.size < g ∧ AF3 wr w.heap.size 0 0 0 ∧ RdX wr g q ∧ Below w.heap.size w wr
theorem E3.next {w wr wr' : World} {g q q' : Nat} (h : E3 w g q wr) (hr : RdX wr' g q') (hg : wr.grownBy wr' (some g)) : E3 w g q' wr' :=
  ⟨h.1, h.2.1.grown hg (by have := h.1; omega), hr, h.2.2.2.grown hg h.2.2.2.size (fun k hk => by injection hk with hk; have := h.1; omega)⟩
theorem E3.fin {w wr : World} {g q : Nat} (h : E3 w g q wr) (p a v : Int) : AF3 (set3 wr w.heap.size p a v) w.heap.size p a v ∧ Below w.heap.size w (set3 wr w.heap.size p a v) :=
  ⟨h.2.1.set3 p a v, set3_below h.2.2.2 (Nat.le_refl _) p a v⟩
/-- A drawn state and a ballot; and a value. -/
def DrewP (w : World) (e : Ending) (w' : World) : Prop := ∃ P a v b : Int, 0 ≤ b ∧ b ≤ 21 ∧ e = .returned (.tuple #[AVal P a v, .int .i64 b]) ∧ Below w.heap.size w w'
def DrewV (w : World) (e : Ending) (w' : World) : Prop := ∃ P a v : Int, e = .returned (AVal P a v) ∧ Below w.heap.size w w'
theorem quo_small {y : Int} (h0 : 0 ≤ y) (h1 : y < 24) : 0 ≤ y / 23 ∧ y / 23 ≤ 1 := by omega
end Go.Proofs.Ytfagjbbljdgefaa
