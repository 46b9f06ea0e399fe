/- The model's depth, members and satisfaction by their contracts. -/
import Derived.Test.YtncjpejkibhdoaaDoorSpecX
namespace Go.Proofs.YtncjpejkibhdoaaDoor
open Go.RowKit

def ops : Ex → List Ex
  | .mem _ => []
  | .thr _ es => es
theorem dep_ops (e : Ex) : dep e = depL (ops e) := by cases e <;> simp [dep, ops, depL]
theorem ops_at {e : Ex} {j : Nat} {x : Ex} (hw : wf e) (h : (ops e)[j]? = some x) : wf x ∧ (tx x).length + 2 ≤ (tx e).length := by
  cases e with
  | mem m => simp [ops] at h
  | thr k es => exact ⟨wf_at hw h, tx_at h⟩
theorem ops_len {e : Ex} (hw : wf e) : (ops e).length ≤ 6 := by
  cases e with
  | mem m => simp [ops]
  | thr k es => simp only [wf] at hw; exact hw.2.2.1
theorem idx0 {T : ByteArray} {b : UInt8} (h : T.data.toList[0]? = some b) (w : World) : (Instr.index 9 (.string T) (.int .i64 0)).run Tryd.prog w = .ok (.int .u8 b.toNat) w := idx (k := 0) h w

theorem one_new (w : World) (x : Int) : New w [x] (.returned (.slice (some ⟨w.heap.size, 0, none⟩) 1 1)) (w.alloc (.cells #[.int .i64 x] 3)) :=
  ⟨_, 1, rfl, ⟨rfl, .inr ⟨w.heap.size, 1, _, rfl, Nat.le_refl _, heap_alloc_new w _, Nat.le_refl _, by unfold maxLen; omega, rfl, rfl⟩⟩, (Below.refl _ _).alloc (Nat.le_refl _) _⟩
end Go.Proofs.YtncjpejkibhdoaaDoor
