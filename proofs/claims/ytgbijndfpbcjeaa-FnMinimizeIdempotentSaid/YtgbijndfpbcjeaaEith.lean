/- The program's sums and products of quorum systems, by their contracts. -/
import Derived.Test.YtgbijndfpbcjeaaLists
namespace Go.Proofs.Ytgbijndfpbcjeaa
open Go.RowKit

theorem fam_bits {F : List (List Int)} (h : famOk F = true) : Msk (msks F) ∧ (msks F).length ≤ 20 := ⟨msks_msk (famOk_allV h), by simp [msks]; exact famOk_len h⟩

/-- What the reading of two quorum systems hands back. -/
def Fams (w : World) (F G : List (List Int)) (e : Ending) (w' : World) : Prop :=
  Below w.heap.size w w' ∧ (((famOk F && famOk G) = false ∧ e = .returned (.tuple #[.slice none 0 0, .slice none 0 0, .bool false])) ∨
    (famOk F = true ∧ famOk G = true ∧ ∃ A c B d, e = .returned (.tuple #[.slice A (msks F).length c, .slice B (msks G).length d, .bool true]) ∧ IB w' A (msks F) ∧ IB w' B (msks G)))

def bothOk (F G : List (List Int)) : Bool := famOk F && famOk G
def eithM (F G : List (List Int)) : List Nat := msks F ++ msks G
def bothM (F G : List (List Int)) : List Nat := (msks F).flatMap fun a => (msks G).map fun b => a ||| b
def outM (M : List Nat) (ok : Bool) : List (List Int) := if ok = true then mems (mins M) else []
theorem take_n {K : List Nat} {k m : Nat} (h : K[k]? = some m) : K.take (k + 1) = K.take k ++ [m] := by simp [List.take_add_one, h]
theorem perm_snoc {b b' X : List Nat} {m : Nat} (h : b'.Perm (m :: b)) (h2 : b.Perm X) : b'.Perm (X ++ [m]) := h.trans ((List.Perm.cons _ h2).trans (List.perm_append_comm (l₁ := [m])))

/-- The end of each: the heap is emptied, its minimal sets are listed. -/
theorem made_below {w : World} : Below w.heap.size w ((w.alloc (.cells #[] 59)).alloc (.cells #[.slice (some ⟨w.heap.size, 0, none⟩) 0 0] 58)) :=
  ((Below.refl _ w).alloc (Nat.le_refl _) _).alloc (by simp) _

theorem flat_take {K1 K2 : List Nat} {k m : Nat} (h : K1[k]? = some m) : ((K1.take (k + 1)).flatMap fun a => K2.map fun b => a ||| b) = ((K1.take k).flatMap fun a => K2.map fun b => a ||| b) ++ K2.map fun b => m ||| b := by
  rw [take_n h]; simp [List.flatMap_append]
theorem flat_len (K1 K2 : List Nat) : (K1.flatMap fun a => K2.map fun b => a ||| b).length = K1.length * K2.length := by
  induction K1 with
  | nil => simp
  | cons a K1 ih => simp [List.flatMap_cons, ih, Nat.succ_mul]; omega
theorem or_lt {a b : Nat} (ha : a < 64) (hb : b < 64) : a ||| b < 64 := (or_two ha hb).2

end Go.Proofs.Ytgbijndfpbcjeaa
