/- Duals of trees and their texts; plain facts, no program. -/
import Derived.Test.YtgbijndfpbcjeaaSpecX
import Derived.Lib.Join
namespace Go.Proofs.Ytgbijndfpbcjeaa

mutual
theorem dual_len : (e : Ex) → wf e → (tx (dual e)).length = (tx e).length
  | .mem m, _ => by simp [dual]
  | .thr k es, h => by simp only [wf] at h; have := dualL_txlen es h.2.2.2; simp only [dual, tx, List.length_cons]; omega
theorem dualL_txlen : (es : List Ex) → wfL es → (txL (dualL es)).length = (txL es).length ∧ (txT (dualL es)).length = (txT es).length
  | [], _ => by simp [dualL]
  | e :: es, h => by
    simp only [wfL] at h
    have h1 := dual_len e h.1
    have h2 := dualL_txlen es h.2
    simp only [dualL, txT_cons, txL_cons, List.length_append, List.length_cons]
    omega
end
mutual
theorem dual_wf : (e : Ex) → wf e → wf (dual e)
  | .mem m, h => by simpa [dual] using h
  | .thr k es, h => by
    simp only [wf] at h
    have h1 := dualL_wf es h.2.2.2
    have h2 := dualL_len es
    simp only [dual, wf]
    exact ⟨by omega, by omega, by omega, h1⟩
theorem dualL_wf : (es : List Ex) → wfL es → wfL (dualL es)
  | [], _ => by simp [dualL, wfL]
  | e :: es, h => by simp only [wfL] at h; simp only [dualL, wfL]; exact ⟨dual_wf e h.1, dualL_wf es h.2⟩
end
mutual
theorem dual_dual : (e : Ex) → wf e → dual (dual e) = e
  | .mem m, _ => by simp [dual]
  | .thr k es, h => by
    simp only [wf] at h
    have h1 := dualL_dualL es h.2.2.2
    have h2 := dualL_len es
    simp only [dual, h1, h2]
    congr 1
    omega
theorem dualL_dualL : (es : List Ex) → wfL es → dualL (dualL es) = es
  | [], _ => by simp [dualL]
  | e :: es, h => by simp only [wfL] at h; simp only [dualL, dual_dual e h.1, dualL_dualL es h.2]
end
/-- What is still to be written behind j operands. -/
def rest (ds : List Ex) (j : Nat) : List UInt8 := if j = 0 then txL ds else txT (ds.drop j)
theorem rest_step {ds : List Ex} {j : Nat} {d : Ex} (h : ds[j]? = some d) : rest ds j = (if j = 0 then [] else [44]) ++ tx d ++ rest ds (j + 1) := by
  unfold rest
  rw [if_neg (by omega : ¬ j + 1 = 0)]
  by_cases h0 : j = 0
  · subst h0
    rw [if_pos rfl, if_pos rfl]
    have := drop_c h
    rw [List.drop_zero] at this
    rw [this, txL_cons]
    simp
  · rw [if_neg h0, if_neg h0, drop_c h, txT_cons, txL_cons]
    simp
theorem rest_end {ds : List Ex} (h : 1 ≤ ds.length) : rest ds ds.length = [41] := by
  unfold rest
  rw [if_neg (by omega), List.drop_length, txT_nil]
theorem join_tx (es : List Ex) (h : es ≠ []) : Lib.join (es.map tx) [44] ++ [41] = txL es := by
  cases es with
  | nil => exact absurd rfl h
  | cons e es =>
    rw [List.map_cons, Lib.join_cons, txL_cons]
    have : ∀ es : List Ex, Lib.joinTail [44] (es.map tx) ++ [41] = txT es := by
      intro es
      induction es with
      | nil => simp [Lib.joinTail, txT]
      | cons e es ih =>
        rw [txT_cons, txL_cons, ← ih]
        simp [Lib.joinTail]
    rw [List.append_assoc, this]
theorem data_app0 (a b : ByteArray) : (a ++ b).data.toList = a.data.toList ++ b.data.toList := by simp [ByteArray.data_append]
theorem dig_dg (n : Nat) : dig (n : Int) = [dg n] := by simp [dig, dg]
theorem txL_le {es : List Ex} {k : Nat} : (txL es).length + 2 = (tx (.thr k es)).length := by simp [tx]
end Go.Proofs.Ytgbijndfpbcjeaa
