/- The reference model's subsets, masks and membership by their contracts. -/
import Derived.Test.YtimijinldhpmfaaSpec
namespace Go.Proofs.Ytimijinldhpmfaa
open Go.RowKit

theorem subs_step {a b : List Int} {k : Nat} {x : Int} (hx : a[k]? = some x) (h : subs (a.take k) b = true) (hb : has b x = true) : subs (a.take (k + 1)) b = true := by
  simp only [subs, List.take_add_one, hx, Option.toList_some, List.all_append, List.all_cons, List.all_nil, hb, Bool.and_true] at h ⊢
  exact h
theorem subs_stop {a b : List Int} {k : Nat} {x : Int} (hx : a[k]? = some x) (hb : has b x = false) : subs a b = false := by
  simp only [subs, List.all_eq_false]
  exact ⟨x, List.mem_of_getElem? hx, by simp [hb]⟩

theorem pow_small {n : Nat} (h : n ≤ 6) : 2 ^ n ≤ 64 := Nat.pow_le_pow_right (by omega) h

theorem bit_of {s k : Nat} {b : Bool} (h : Nat.testBit s k = b) : (s / 2 ^ k) % 2 = if b then 1 else 0 := by
  rw [← h, Nat.testBit_eq_decide_div_mod_eq]
  by_cases e : s / 2 ^ k % 2 = 1
  · simp [e]
  · simp [e]; omega

end Go.Proofs.Ytimijinldhpmfaa
