/- A region that draws its order, only reads, and whose callees may make memory: one walk of the text's order serves every order. -/
import Derived.BigQuiet
import Derived.Test.YtimijinldhpmfaaCore
namespace Go.Proofs.Ytimijinldhpmfaa
open Go.RowKit

/-- The class of worlds is a family: the facts on it are laid as equations over its members. -/
theorem wp_region_fam {P : Program} {X : Type} [Nonempty X] (W : X → World) {id : Nat} {Q : Exit → Act → World → Prop} {a : Act} {w : World} {l : List Oper} (hm : P.follows .mixedOrders = true) (hB : Region.lexB .any l.toArray = true)
    (x0 : X) (h0 : W x0 = w.drew) (h : wpQuiet P l.toArray (fun w' => ∃ x, w' = W x) (fun a' => ∀ w', (∃ x, w' = W x) → Q .normal a' w') l a) : (Code.region id l.toArray true).wp P Q a w :=
  wp_region_quiet (C := fun w' => ∃ x, w' = W x) hm hB ⟨x0, h0.symm⟩ (by simpa using h)
/-- All that lies below a world. -/
theorem fam_of (w : World) : ∃ (X : Type) (_ : Nonempty X) (W : X → World) (x0 : X), W x0 = w.drew ∧ (∀ x, Below w.heap.size w (W x)) ∧ ∀ x w', Below (W x).heap.size (W x) w' → ∃ y, w' = W y :=
  ⟨{ w' : World // Below w.heap.size w w' }, ⟨⟨w, Below.refl _ _⟩⟩, Subtype.val, ⟨w.drew, (Below.refl _ w).drew⟩, rfl, fun x => x.2, fun x w' h => ⟨⟨w', below_step x.2 h⟩, rfl⟩⟩
/-- A callee's contract met in a member of the family. -/
theorem fam_calls {P : Program} {X : Type} {W : X → World} (hW : ∀ x w', Below (W x).heap.size (W x) w' → ∃ y, w' = W y) {f : FuncId} {args : Array Value} {v : Value} {x : X}
    (h : Calls P f args (W x) fun e w' => e = .returned v ∧ Below (W x).heap.size (W x) w') : Calls P f args (W x) fun e w' => e = .returned v ∧ ∃ y, w' = W y :=
  h.mono fun _ _ ⟨he, hb⟩ => ⟨he, hW x _ hb⟩
end Go.Proofs.Ytimijinldhpmfaa
