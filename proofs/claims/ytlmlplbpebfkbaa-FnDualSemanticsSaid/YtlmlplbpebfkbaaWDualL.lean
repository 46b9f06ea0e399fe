/- Helpers for laws on duals of drawn expressions. -/
import Derived.Test.YtlmlplbpebfkbaaWDual
import Derived.Test.YtlmlplbpebfkbaaLawX
namespace Go.Proofs.Ytlmlplbpebfkbaa
open Go.RowKit

/-- Two operands, the second a member. -/
theorem pairT {T : ByteArray} {x : Ex} {k m : Nat} (h : pT0 T = some x) (hk : 1 ≤ k) (hk2 : k ≤ 2) (hm : 1 ≤ m) (hm6 : m ≤ 6) (hl : T.size + 5 ≤ 40) :
    pT0 (⟨#[dg k, 40]⟩ ++ T ++ ⟨#[44]⟩ ++ ⟨#[dg m]⟩ ++ ⟨#[41]⟩) = some (.thr k [x, .mem m]) := by
  obtain ⟨h1, h2⟩ := pT0_tx h
  refine pT0_of ?_ ?_ ?_
  · rw [data_app, data_app, data_app, data_app, h1]
    simp [tx, txL, txT]
  · simp only [wf, wfL, List.length_cons, List.length_nil]
    exact ⟨hk, by omega, by omega, h2, ⟨hm, hm6⟩, trivial⟩
  · simp only [ByteArray.size_append]
    show 2 + T.size + 1 + 1 + 1 ≤ 40
    omega
theorem pairD {T : ByteArray} {x : Ex} {k m : Nat} (h : pT0 T = some x) (hk : 1 ≤ k) (hk2 : k ≤ 2) (hm : 1 ≤ m) (hm6 : m ≤ 6) (hl : T.size + 5 ≤ 40) :
    dualX (⟨#[dg k, 40]⟩ ++ T ++ ⟨#[44]⟩ ++ ⟨#[dg m]⟩ ++ ⟨#[41]⟩) = ⟨#[dg (3 - k), 40]⟩ ++ dualX T ++ ⟨#[44]⟩ ++ ⟨#[dg m]⟩ ++ ⟨#[41]⟩ := by
  have h1 : dualX T = bx (dual x) := by simp [dualX, h]
  rw [h1]
  unfold dualX
  rw [pairT h hk hk2 hm hm6 hl]
  simp only
  symm
  apply ext_of
  rw [data_app, data_app, data_app, data_app, bx_list]
  simp only [dual, dualL, tx, txL, txT, List.length_cons, List.length_nil]
  rw [show 0 + 1 + 1 - k + 1 = 3 - k by omega]
  simp
theorem dual_size {T : ByteArray} : (dualX T).size ≤ 40 := by
  unfold dualX
  split
  · exact Nat.zero_le _
  · rename_i x h
    obtain ⟨_, h2, h3⟩ := bx_of h
    rw [bx_size, dual_len x h2]; exact h3
theorem dual_nil {T : ByteArray} (h : pT0 T = none) : dualX T = ⟨#[]⟩ := by simp [dualX, h]
theorem dual_ne {T : ByteArray} {x : Ex} (h : pT0 T = some x) : ((dualX T).toList == []) = false := by
  obtain ⟨_, h2, _⟩ := bx_of h
  have h1 : dualX T = bx (dual x) := by simp [dualX, h]
  have := tx_pos (dual x)
  rw [h1, ByteArray.toList_eq, bx_list]
  cases hx : tx (dual x) with
  | nil => rw [hx] at this; simp at this
  | cons a l => rfl
theorem digits_cut (r : Nat) (h : r < 6) (w : World) : (Instr.slice 9 (.string ⟨#[49, 50, 51, 52, 53, 54]⟩) (some (.int .i64 (r : Int))) (some (.int .i64 ((r : Int) + 1))) none).run Try.prog w = .ok (.string ⟨#[dg (r + 1)]⟩) w := by
  rw [run_slice_string_if w 9 _ .i64 .i64 _ _ Try.underlying9, if_pos ⟨by omega, by show (r : Int) + 1 ≤ 6; omega⟩, if_pos ⟨by omega, by omega⟩]
  have H : ∀ r : Fin 6, (⟨#[49, 50, 51, 52, 53, 54]⟩ : ByteArray).extract r.val (r.val + 1) = ⟨#[dg (r.val + 1)]⟩ := by decide
  rw [show ((r : Int)).toNat = r by omega, show ((r : Int) + 1).toNat = r + 1 by omega, H ⟨r, h⟩]
theorem dI (T : ByteArray) (w : World) (X : ByteArray) (h : dualX T = X) (hT : T.size ≤ 1048576) : Calls Try.prog 26 #[.string T] w fun e w' => e = .returned (.string X) ∧ Below w.heap.size w w' := by
  rw [← h]; exact implDualX T w hT
theorem dS (T : ByteArray) (w : World) (X : ByteArray) (h : dualX T = X) (hT : T.size ≤ 1048576) : Calls Try.prog 27 #[.string T] w fun e w' => e = .returned (.string X) ∧ Below w.heap.size w w' := by
  rw [← h]; exact specDualX T w hT

end Go.Proofs.Ytlmlplbpebfkbaa
