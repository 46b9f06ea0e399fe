/- Texts of sets, the model's, by their contracts. -/
import Derived.Test.YtgbijndfpbcjeaaSpec
namespace Go.Proofs.Ytgbijndfpbcjeaa
open Go.RowKit

def dig (x : Int) : List UInt8 := [UInt8.ofNat (48 + x.toNat)]
def fmtK (l : List Int) : Nat → List UInt8
  | 0 => [123]
  | k + 1 => fmtK l k ++ (if k = 0 then [] else [44]) ++ dig (l.getD k 0)
def fmt (l : List Int) : List UInt8 := fmtK l l.length ++ [125]
abbrev S (l : List UInt8) : Value := .string ⟨l.toArray⟩
theorem ba_app (a b : List UInt8) : (⟨a.toArray⟩ : ByteArray) ++ ⟨b.toArray⟩ = ⟨(a ++ b).toArray⟩ := by apply ByteArray.ext; simp
theorem fmtK_len (l : List Int) (k : Nat) : (fmtK l k).length ≤ 2 * k + 1 := by
  induction k with
  | zero => simp [fmtK]
  | succ k ih => simp only [fmtK, List.length_append, dig, List.length_cons, List.length_nil]; split <;> simp <;> omega

theorem small_byte {x : Int} (h0 : 0 ≤ x) (h1 : x ≤ 9) : ((UInt8.ofNat (48 + x.toNat)).toNat : Int) = 48 + x := by
  have H : ∀ n : Fin 10, (UInt8.ofNat (48 + n.val)).toNat = 48 + n.val := by decide
  have := H ⟨x.toNat, by omega⟩
  simp only at this
  rw [this]; omega
set_option maxRecDepth 100000 in
set_option maxHeartbeats 800000 in
theorem l6Dec_digit (x : Int) (w : World) (h0 : 0 ≤ x) (h1 : x ≤ 9) :
    Calls Try.prog 105 #[.int .i64 x] w fun e w' => e = .returned (S (dig x)) ∧ Below w.heap.size w w' := by
  have hcv : (convert 22 9 (.slice (some ⟨w.heap.size, 0, none⟩) 1 1)).run Try.prog (w.alloc (.cells #[.int .u8 (48 + x)] 5)) = .ok (S (dig x)) (w.alloc (.cells #[.int .u8 (48 + x)] 5)) :=
    run_convert_bytes_back (P := Try.prog) (w.alloc (.cells #[.int .u8 (48 + x)] 5)) 22 9 5 ⟨w.heap.size, 0, none⟩ 1 (dig x) Try.underlying22 Try.underlying5 Try.underlying9 (by
      intro j hj
      have hj0 : j = 0 := by simp [dig] at hj; omega
      subst hj0
      show _ = some (Value.int .u8 ((UInt8.ofNat (48 + x.toNat)).toNat : Int))
      rw [small_byte h0 h1]
      exact cell_one_new w _ _ 0 _ rfl)
  go_enter Try.func105, Try.ntmps105
  go_wp2
  go_ret
  exact ⟨rfl, (Below.refl _ _).alloc (Nat.le_refl _) _⟩

theorem fmtK_step {l : List Int} {k : Nat} {x : Int} (hx : l[k]? = some x) : fmtK l (k + 1) = fmtK l k ++ (if k = 0 then [] else [44]) ++ dig x := by
  simp [fmtK, List.getD, hx]

/-- The text of a set, empty for an invalid one. -/
def fmtR (l : List Int) : List UInt8 := if vld l = true then fmt l else []
end Go.Proofs.Ytgbijndfpbcjeaa
