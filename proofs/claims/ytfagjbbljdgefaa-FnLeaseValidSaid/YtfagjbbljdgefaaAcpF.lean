/- Acceptors: the other draws, the laws' copies and comparisons, by their contracts. -/
import Derived.Test.YtfagjbbljdgefaaAcpE
import Derived.Laws.StructEq
namespace Go.Proofs.Ytfagjbbljdgefaa
open Go.RowKit

theorem results_cell_tmp2 {fn : Func} {p u v : Tmp} {ty : TypeId} (h : fn.results = #[.cell p ty, .tmp u, .tmp v]) (tmps : Array Value) (P : Program) (w : World) :
    (results fn tmps).run P w =
      ((asAddr (tmps.getD p undef)).run P w).andThen fun a w₁ => ((loadVar ty a).run P w₁).andThen fun x w₂ => .ok (.tuple #[x, tmps.getD u undef, tmps.getD v undef]) w₂ := by
  simp only [results, h]
  simp [Sem.run_bind, Result.andThen]
def DrewPV (w : World) (e : Ending) (w' : World) : Prop := ∃ P a v b c : Int, 0 ≤ b ∧ b ≤ 21 ∧ 1 ≤ c ∧ c ≤ 108 ∧ e = .returned (.tuple #[AVal P a v, .int .i64 b, .int .i64 c]) ∧ Below w.heap.size w w'
end Go.Proofs.Ytfagjbbljdgefaa
