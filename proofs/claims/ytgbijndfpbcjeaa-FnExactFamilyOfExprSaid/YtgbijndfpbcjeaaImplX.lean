/- The program's functions of trees by their contracts. -/
import Derived.Test.YtgbijndfpbcjeaaVal
import Derived.Test.YtgbijndfpbcjeaaSem
import Derived.Test.YtgbijndfpbcjeaaImpl
namespace Go.Proofs.Ytgbijndfpbcjeaa
open Go.RowKit

theorem as_mem_yes (v : Value) (w : World) : (Instr.typeAssert (.iface 125 v) 69 125 true).run Try.prog w = .ok (.tuple #[v, .bool true]) w := by kernel_rfl
theorem as_mem_no (v : Value) (w : World) : (Instr.typeAssert (.iface 108 v) 69 125 true).run Try.prog w = .ok (.tuple #[.pointer none, .bool false]) w := by kernel_rfl
theorem as_thr_yes (v : Value) (w : World) : (Instr.typeAssert (.iface 108 v) 69 108 true).run Try.prog w = .ok (.tuple #[v, .bool true]) w := by kernel_rfl
theorem as_thr_no (v : Value) (w : World) : (Instr.typeAssert (.iface 125 v) 69 108 true).run Try.prog w = .ok (.tuple #[.pointer none, .bool false]) w := by kernel_rfl

theorem VL.at_ {w : World} {Q : Nat → Prop} {A : Option Addr} {vs : List Value} {j : Nat} {u : Value} (h : VL w Q A vs) (hj : vs[j]? = some u) : ∃ g off, A = some ⟨g, off, none⟩ ∧ w.cell? ⟨g, off + j, none⟩ = some u := by
  rcases h with rfl | ⟨g, off, rfl, _, _, hc⟩
  · simp at hj
  · exact ⟨g, off, rfl, hc j u hj⟩
/-- The operand j of a threshold in memory. -/
theorem op_at {w : World} {Q : Nat → Prop} {A : Option Addr} {es : List Ex} {vs : List Value} {j : Nat} (hV : VL w Q A vs) (hT : TrL w Q es vs) (hj : j < es.length) :
    ∃ y u g off, es[j]? = some y ∧ A = some ⟨g, off, none⟩ ∧ w.cell? ⟨g, off + j, none⟩ = some u ∧ Tr w Q y u := by
  obtain ⟨y, hy⟩ : ∃ y, es[j]? = some y := ⟨_, List.getElem?_eq_getElem hj⟩
  obtain ⟨u, hu, ht⟩ := TrL.at_ es vs hT j y hy
  obtain ⟨g, off, hA, hc⟩ := hV.at_ hu
  exact ⟨y, u, g, off, hy, hA, hc, ht⟩

end Go.Proofs.Ytgbijndfpbcjeaa
