/- SetOfMask, the model's and the program's, by their contracts. -/
import Derived.Test.YtlggnnndahgbjaaDoorSpecM
import Derived.Test.YtlggnnndahgbjaaDoorImpl
namespace Go.Proofs.YtlggnnndahgbjaaDoor
open Go.RowKit

theorem New2.mk {w w' : World} {l : List Int} {b : Bool} {A : Option Addr} {c : Nat} (ho : w'.ownsRow w.heap.size 3 1 (.slice A l.length c) l.length (l.map (Value.int .i64))) (hb : Below w.heap.size w w') :
    New2 w l b (.returned (.tuple #[.slice A l.length c, .bool b])) w' := ⟨A, c, rfl, ho, hb⟩
theorem New2.made {w w1 : World} (hb : Below w.heap.size w w1) : New2 w [] false (.returned (.tuple #[.slice (some ⟨w1.heap.size, 0, none⟩) 0 0, .bool false])) (w1.alloc (.cells #[] 3)) :=
  ⟨_, 0, rfl, World.ownsRow_made w1 #[] 0 hb.size (Nat.zero_le _) rfl, hb.alloc hb.size _⟩
theorem New2.nil {w w' : World} (hb : Below w.heap.size w w') : New2 w [] false (.returned (.tuple #[.slice none 0 0, .bool false])) w' := ⟨none, 0, rfl, World.ownsRow_nil _ _ _ _, hb⟩

theorem l6In_yes' (n a b : Int) (w : World) (h1 : a ≤ n) (h2 : n ≤ b) :
    Calls Tryd.prog 27 #[.int .i64 n, .int .i64 a, .int .i64 b] w fun e w' => e = .returned (.bool true) ∧ w = w' := (l6In_yes n a b w h1 h2).mono fun _ _ h => ⟨h.1, h.2.symm⟩
theorem l6In_no' (n a b : Int) (w : World) (h : n < a ∨ b < n) :
    Calls Tryd.prog 27 #[.int .i64 n, .int .i64 a, .int .i64 b] w fun e w' => e = .returned (.bool false) ∧ w = w' := (l6In_no n a b w h).mono fun _ _ h => ⟨h.1, h.2.symm⟩

end Go.Proofs.YtlggnnndahgbjaaDoor
