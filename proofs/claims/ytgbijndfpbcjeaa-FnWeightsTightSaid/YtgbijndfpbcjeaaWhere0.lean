/- What minimalWhere keeps while it asks subset after subset. -/
import Derived.Test.YtgbijndfpbcjeaaIter
namespace Go.Proofs.Ytgbijndfpbcjeaa
open Go.RowKit Go.Shelf

theorem perm_snoc' {b b' X : List Nat} {m : Nat} (h : b'.Perm (m :: b)) (h2 : b.Perm X) : b'.Perm (X ++ [m]) := h.trans ((List.Perm.cons _ h2).trans (List.perm_append_comm (l₁ := [m])))
/-- Memory where the loop over the subsets begins. -/
def wh0 (w : World) (fv : Value) : World :=
  ((((w.alloc (.cells #[fv] 73)).alloc (.cells #[] 59)).alloc (.cells #[.slice (some ⟨w.heap.size + 1, 0, none⟩) 0 0] 58)).alloc (.cells #[.pointer (some ⟨w.heap.size + 1 + 1, 0, none⟩)] 56)).alloc (.cells #[.int .u8 63] 59)
theorem wh0_facts (w : World) (fv : Value) :
    HG (wh0 w fv) (w.heap.size + 1 + 1) (w.heap.size + 1) 0 [] ∧ (wh0 w fv).cell? ⟨w.heap.size, 0, none⟩ = some fv ∧ (wh0 w fv).cell? ⟨w.heap.size + 1 + 1 + 1, 0, none⟩ = some (.pointer (some ⟨w.heap.size + 1 + 1, 0, none⟩)) ∧
    (wh0 w fv).cell? ⟨w.heap.size + 1 + 1 + 1 + 1, 0, none⟩ = some (.int .u8 63) ∧ (wh0 w fv).heap.size = w.heap.size + 5 ∧ Below w.heap.size w (wh0 w fv) := by
  unfold wh0
  generalize hw1 : w.alloc (.cells #[fv] 73) = w1
  have z1 : w1.heap.size = w.heap.size + 1 := by rw [← hw1, World.size_alloc]
  have n1 : w1.heap[w.heap.size]? = some (.cells #[fv] 73 (0, 0)) := by rw [← hw1]; exact heap_alloc_new w _
  have b1 : Below w.heap.size w w1 := by rw [← hw1]; exact (Below.refl _ w).alloc (Nat.le_refl _) _
  generalize hw2 : w1.alloc (.cells #[] 59) = w2
  have z2 : w2.heap.size = w.heap.size + 1 + 1 := by rw [← hw2, World.size_alloc, z1]
  have n2 : w2.heap[w.heap.size + 1]? = some (.cells #[] 59 (0, 0)) := by rw [← hw2, ← z1]; exact heap_alloc_new w1 _
  have b2 : Below w1.heap.size w1 w2 := by rw [← hw2]; exact (Below.refl _ w1).alloc (Nat.le_refl _) _
  generalize hw3 : w2.alloc (.cells #[.slice (some ⟨w.heap.size + 1, 0, none⟩) 0 0] 58) = w3
  have z3 : w3.heap.size = w.heap.size + 1 + 1 + 1 := by rw [← hw3, World.size_alloc, z2]
  have n3 : w3.heap[w.heap.size + 1 + 1]? = some (.cells #[.slice (some ⟨w.heap.size + 1, 0, none⟩) 0 0] 58 (0, 0)) := by rw [← hw3, ← z2]; exact heap_alloc_new w2 _
  have b3 : Below w2.heap.size w2 w3 := by rw [← hw3]; exact (Below.refl _ w2).alloc (Nat.le_refl _) _
  generalize hw4 : w3.alloc (.cells #[.pointer (some ⟨w.heap.size + 1 + 1, 0, none⟩)] 56) = w4
  have z4 : w4.heap.size = w.heap.size + 1 + 1 + 1 + 1 := by rw [← hw4, World.size_alloc, z3]
  have n4 : w4.heap[w.heap.size + 1 + 1 + 1]? = some (.cells #[.pointer (some ⟨w.heap.size + 1 + 1, 0, none⟩)] 56 (0, 0)) := by rw [← hw4, ← z3]; exact heap_alloc_new w3 _
  have b4 : Below w3.heap.size w3 w4 := by rw [← hw4]; exact (Below.refl _ w3).alloc (Nat.le_refl _) _
  generalize hw5 : w4.alloc (.cells #[.int .u8 63] 59) = w5
  have z5 : w5.heap.size = w.heap.size + 5 := by rw [← hw5, World.size_alloc, z4]
  have n5 : w5.heap[w.heap.size + 1 + 1 + 1 + 1]? = some (.cells #[.int .u8 63] 59 (0, 0)) := by rw [← hw5, ← z4]; exact heap_alloc_new w4 _
  have b5 : Below w4.heap.size w4 w5 := by rw [← hw5]; exact (Below.refl _ w4).alloc (Nat.le_refl _) _
  have m1 : w5.heap[w.heap.size]? = some (.cells #[fv] 73 (0, 0)) := by rw [b5.block _ (by omega), b4.block _ (by omega), b3.block _ (by omega), b2.block _ (by omega)]; exact n1
  have m2 : w5.heap[w.heap.size + 1]? = some (.cells #[] 59 (0, 0)) := by rw [b5.block _ (by omega), b4.block _ (by omega), b3.block _ (by omega)]; exact n2
  have m3 : w5.heap[w.heap.size + 1 + 1]? = some (.cells #[.slice (some ⟨w.heap.size + 1, 0, none⟩) 0 0] 58 (0, 0)) := by rw [b5.block _ (by omega), b4.block _ (by omega)]; exact n3
  have m4 : w5.heap[w.heap.size + 1 + 1 + 1]? = some (.cells #[.pointer (some ⟨w.heap.size + 1 + 1, 0, none⟩)] 56 (0, 0)) := by rw [b5.block _ (by omega)]; exact n4
  refine ⟨⟨m3, by simp [ubs], .inr ⟨w.heap.size + 1, 0, #[], rfl, Nat.zero_le _, m2, Nat.le_refl _, by unfold maxLen; omega, by simp, by simp [ubs]⟩⟩, ?_, ?_, ?_, z5, ?_⟩
  · rw [cell_of_row w5 _ 0 _ _ (0, 0) m1]; rfl
  · rw [cell_of_row w5 _ 0 _ _ (0, 0) m4]; rfl
  · rw [cell_of_row w5 _ 0 _ _ (0, 0) n5]; rfl
  · exact below_step (below_step (below_step (below_step b1 b2) b3) b4) b5
/-- Between two rounds: the heap holds those of the sets that have come of which p is true. -/
def whI (w : World) (fv : Value) (p : Nat → Bool) (pre : List Sub64) (W : World) : Prop :=
  (∃ g c b, HG W (w.heap.size + 1 + 1) g c b ∧ (g = w.heap.size + 1 ∨ w.heap.size + 5 ≤ g) ∧ HeapN b b.length ∧ b.Perm ((vals pre).filter p) ∧ b.length ≤ pre.length) ∧
  W.cell? ⟨w.heap.size, 0, none⟩ = some fv ∧ W.cell? ⟨w.heap.size + 1 + 1 + 1, 0, none⟩ = some (.pointer (some ⟨w.heap.size + 1 + 1, 0, none⟩)) ∧ w.heap.size + 5 ≤ W.heap.size ∧ Below w.heap.size w W
theorem whI_own (w : World) (fv : Value) (p : Nat → Bool) : OwnFrom (w.heap.size + 5) (whI w fv p) := by
  rintro s W W' row ⟨⟨g, c, b, h1, h2, h3⟩, h4, h5, h6, h7⟩ hg hr
  have same : ∀ i, i < w.heap.size + 5 → W'.heap[i]? = W.heap[i]? := fun i hi => hg.block i (by omega) fun e => by have := (hr i e.symm).1; omega
  have hgg : W'.heap[g]? = W.heap[g]? := hg.block g h1.lt.2 fun e => by
    obtain ⟨_, o, ho, hn⟩ := hr g e.symm
    obtain ⟨cur, hc⟩ := own_cells h1.2 g rfl
    rw [hc] at ho
    injection ho with ho
    subst ho
    cases hn
  exact ⟨⟨g, c, b, h1.kept (same _ (by omega)) hgg, h2, h3⟩, (World.cell?_of_block (w := W) (same w.heap.size (by omega))).trans h4, (World.cell?_of_block (w := W) (same (w.heap.size + 1 + 1 + 1) (by omega))).trans h5, Nat.le_trans h6 hg.size,
    ⟨hg.os.trans h7.os, hg.tape.trans h7.tape, hg.output.trans h7.output, Nat.le_trans h7.size hg.size, fun i hi => (same i (by omega)).trans (h7.block i hi)⟩⟩
end Go.Proofs.Ytgbijndfpbcjeaa
