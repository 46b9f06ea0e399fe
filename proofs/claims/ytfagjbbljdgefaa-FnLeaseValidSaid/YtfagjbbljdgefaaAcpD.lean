/- Acceptors drawn, by their contracts. -/
import Derived.Test.YtfagjbbljdgefaaAcpV
import Derived.Test.YtfagjbbljdgefaaDraw2
namespace Go.Proofs.Ytfagjbbljdgefaa
open Go.RowKit

/-- While a state is drawn: the reader, the place for the result, the state so far. -/
def D3 (w : World) (g B q : Nat) (x a v : Int) (wr : World) : Prop :=
  g < w.heap.size ∧ w.heap.size < B ∧ AF3 wr w.heap.size 0 0 0 ∧ AF3 wr B x a v ∧ RdX wr g q ∧ w.grownBy wr (some g)
theorem grown_set {w wr : World} {g b off : Nat} (h : w.grownBy wr (some g)) (hb : w.heap.size ≤ b) (u : Value) : w.grownBy (wr.setCell ⟨b, off, none⟩ u) (some g) :=
  ⟨h.os, h.tape, h.output, by simpa [World.setCell] using h.size, fun i hi hne => (Below.heap_setCell wr ⟨b, off, none⟩ u i (by simp; omega)).trans (h.block i hi hne)⟩
theorem RdX.set {wr : World} {g q b off : Nat} (h : RdX wr g q) (hb : g < b) (u : Value) : RdX (wr.setCell ⟨b, off, none⟩ u) g q :=
  h.grown (row := some b) ⟨rfl, rfl, rfl, by simp [World.setCell], fun i hi hne => Below.heap_setCell wr ⟨b, off, none⟩ u i (by simp at hne; simpa using hne)⟩ (fun k hk => by injection hk with hk; omega)
section
variable {w wr wr' : World} {g B q : Nat} {x a v : Int}
theorem AF3.grown (h : AF3 wr B x a v) (hg : wr.grownBy wr' (some g)) (hne : g ≠ B) : AF3 wr' B x a v := h.kept (hg.block B h.lt (by simp; omega))
theorem D3.pick (h : D3 w g B q x a v wr) {q' : Nat} (hr : RdX wr' g q') (hg : wr.grownBy wr' (some g)) : D3 w g B q' x a v wr' := by
  obtain ⟨h1, h2, h3, h4, h5, h6⟩ := h
  exact ⟨h1, h2, h3.grown hg (by omega), h4.grown hg (by omega), hr, grown_trans h6 hg⟩
theorem D3.set1 (h : D3 w g B q x a v wr) (y : Int) : D3 w g B q x y v (wr.setCell ⟨B, 1, none⟩ (.int .i64 y)) := by
  obtain ⟨h1, h2, h3, h4, h5, h6⟩ := h
  exact ⟨h1, h2, h3.kept (Below.heap_setCell wr ⟨B, 1, none⟩ _ _ (by simp; omega)), h4.set1 y, h5.set (by omega) _, grown_set h6 (by omega) _⟩
theorem D3.set2 (h : D3 w g B q x a v wr) (y : Int) : D3 w g B q x a y (wr.setCell ⟨B, 2, none⟩ (.int .i64 y)) := by
  obtain ⟨h1, h2, h3, h4, h5, h6⟩ := h
  exact ⟨h1, h2, h3.kept (Below.heap_setCell wr ⟨B, 2, none⟩ _ _ (by simp; omega)), h4.set2 y, h5.set (by omega) _, grown_set h6 (by omega) _⟩
theorem D3.fin (h : D3 w g B q x a v wr) : AF3 (set3 wr w.heap.size x a v) w.heap.size x a v ∧ RdX (set3 wr w.heap.size x a v) g q ∧ w.grownBy (set3 wr w.heap.size x a v) (some g) := by
  obtain ⟨h1, h2, h3, h4, h5, h6⟩ := h
  exact ⟨h3.set3 x a v, ((h5.set h1 _).set h1 _).set h1 _, grown_set (grown_set (grown_set h6 (Nat.le_refl _) _) (Nat.le_refl _) _) (Nat.le_refl _) _⟩
theorem D3.cs (h : D3 w g B q x a v wr) : wr.cell? ⟨B, 0, none⟩ = some (.int .i64 x) ∧ wr.cell? ⟨B, 1, none⟩ = some (.int .i64 a) ∧ wr.cell? ⟨B, 2, none⟩ = some (.int .i64 v) := cells3 h.2.2.2.1.ab
theorem D3.cz (h : D3 w g B q x a v wr) : wr.cell? ⟨w.heap.size, 0, none⟩ = some (.int .i64 0) ∧ wr.cell? ⟨w.heap.size, 1, none⟩ = some (.int .i64 0) ∧ wr.cell? ⟨w.heap.size, 2, none⟩ = some (.int .i64 0) := cells3 h.2.2.1.ab
end
/-- What the draw of a state hands back. -/
def Drawn3 (w : World) (g p : Nat) (e : Ending) (w' : World) : Prop :=
  ∃ (P a v : Int) (q : Nat), 0 ≤ P ∧ P ≤ 7 ∧ 0 ≤ a ∧ a ≤ 21 ∧ 0 ≤ v ∧ v ≤ 9 ∧ e = .returned (AVal P a v) ∧ RdX w' g q ∧ q ≤ p + 6 ∧ w.grownBy w' (some g)
theorem results_one {fn : Func} {p : Tmp} {ty : TypeId} (h : fn.results = #[.cell p ty]) (tmps : Array Value) (P : Program) (w : World) :
    (results fn tmps).run P w = ((asAddr (tmps.getD p undef)).run P w).andThen fun a w₁ => (loadVar ty a).run P w₁ := by
  simp only [results, h]
  simp [Sem.run_bind, Result.andThen]
end Go.Proofs.Ytfagjbbljdgefaa
