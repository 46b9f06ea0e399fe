/- Acceptors: the whole of AcceptorPrepare and AcceptorAccept, the program's and the model's, by their contracts. -/
import Derived.Test.YtfagjbbljdgefaaAcpT
namespace Go.Proofs.Ytfagjbbljdgefaa
open Go.RowKit

section
variable {w w' : World} {b : Nat} {p a v : Int}
theorem AB3.lt (h : AB3 w b p a v) : b < w.heap.size := by obtain ⟨T, q, h⟩ := h; exact (Array.getElem?_eq_some_iff.1 h).1
theorem AB3.kept (h : AB3 w b p a v) (hb : w'.heap[b]? = w.heap[b]?) : AB3 w' b p a v := by obtain ⟨T, q, h⟩ := h; exact ⟨T, q, hb.trans h⟩
theorem AB3.below (h : AB3 w b p a v) (hb : Below w.heap.size w w') : AB3 w' b p a v := h.kept (hb.block b h.lt)
theorem AB3.below' {B : Nat} (h : AB3 w b p a v) (hb : Below B w w') (hB : b < B) : AB3 w' b p a v := h.kept (hb.block b hB)
end
/-- A state that has not been frozen. -/
def AF3 (w : World) (b : Nat) (p a v : Int) : Prop := ∃ T, w.heap[b]? = some (.cells #[.int .i64 p, .int .i64 a, .int .i64 v] T (0, 0))
section
variable {w w' : World} {b : Nat} {p a v : Int}
theorem AF3.ab (h : AF3 w b p a v) : AB3 w b p a v := by obtain ⟨T, h⟩ := h; exact ⟨T, _, h⟩
theorem AF3.fz (h : AF3 w b p a v) (j : Nat) : w.frozen? ⟨b, j, none⟩ = false := by obtain ⟨T, h⟩ := h; exact frozen_of_row w b j _ _ h
theorem AF3.kept (h : AF3 w b p a v) (hb : w'.heap[b]? = w.heap[b]?) : AF3 w' b p a v := by obtain ⟨T, h⟩ := h; exact ⟨T, hb.trans h⟩
theorem AF3.lt (h : AF3 w b p a v) : b < w.heap.size := h.ab.lt
theorem AF3.below (h : AF3 w b p a v) (hb : Below w.heap.size w w') : AF3 w' b p a v := h.kept (hb.block b h.lt)
theorem AF3.set0 (h : AF3 w b p a v) (x : Int) : AF3 (w.setCell ⟨b, 0, none⟩ (.int .i64 x)) b x a v := by
  obtain ⟨T, h⟩ := h
  refine ⟨T, ?_⟩
  rw [heap_setCell_same w b 0 _ _ _ h]
  rfl
theorem AF3.set1 (h : AF3 w b p a v) (x : Int) : AF3 (w.setCell ⟨b, 1, none⟩ (.int .i64 x)) b p x v := by
  obtain ⟨T, h⟩ := h
  refine ⟨T, ?_⟩
  rw [heap_setCell_same w b 1 _ _ _ h]
  rfl
theorem AF3.set2 (h : AF3 w b p a v) (x : Int) : AF3 (w.setCell ⟨b, 2, none⟩ (.int .i64 x)) b p a x := by
  obtain ⟨T, h⟩ := h
  refine ⟨T, ?_⟩
  rw [heap_setCell_same w b 2 _ _ _ h]
  rfl
def set3 (w : World) (b : Nat) (p a v : Int) : World := ((w.setCell ⟨b, 0, none⟩ (.int .i64 p)).setCell ⟨b, 1, none⟩ (.int .i64 a)).setCell ⟨b, 2, none⟩ (.int .i64 v)
theorem AF3.set3 (h : AF3 w b p a v) (p' a' v' : Int) : AF3 (set3 w b p' a' v') b p' a' v' := ((h.set0 p').set1 a').set2 v'
theorem set3_below {x : World} {B : Nat} (h : Below B x w) (hb : B ≤ b) (p' a' v' : Int) : Below B x (Go.Proofs.Ytfagjbbljdgefaa.set3 w b p' a' v') := ((h.setCell hb _).setCell hb _).setCell hb _
theorem AF3.new (w : World) (p a v : Int) (T : Nat) : AF3 (w.alloc (.cells #[.int .i64 p, .int .i64 a, .int .i64 v] T)) w.heap.size p a v := ⟨T, heap_alloc_new w _⟩
theorem AF3.alloc (h : AF3 w b p a v) (o : Obj) : AF3 (w.alloc o) b p a v := h.kept (Below.heap_alloc w o b h.lt)
end
end Go.Proofs.Ytfagjbbljdgefaa
