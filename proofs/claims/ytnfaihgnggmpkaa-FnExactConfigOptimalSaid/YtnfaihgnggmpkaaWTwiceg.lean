/- The walk of the law that the transversals of the transversals are the original quorums. -/
import Derived.Test.YtnfaihgnggmpkaaDrawFg
namespace Go.Proofs.Ytnfaihgnggmpkaa
open Go.RowKit

theorem trans_out (F : List (List Int)) : outM (transM F) true = mems (mins (trs (msks F))) := by simp [outM, transM]
theorem trans_parts {F : List (List Int)} (h : transOk F = true) : famOk F = true ∧ msks F ≠ [] := by
  simp only [transOk, Bool.and_eq_true, decide_eq_true_eq] at h
  refine ⟨h.1, fun e => ?_⟩
  have : (msks F).length = F.length := by simp [msks]
  rw [e] at this
  simp at this
  omega
theorem trans_ok2 {F : List (List Int)} (h : transOk F = true) : transOk (outM (transM F) true) = true := by
  obtain ⟨h1, h2⟩ := trans_parts h
  have hs := famOk_sys h1
  rw [trans_out]
  have h3 := sys_famOk (mins_sys (trs_msk (msks F)) (trs_zero h2))
  have h4 := mins_ne (trs_msk (msks F)) (trs_all hs)
  have h5 : 0 < (mems (mins (trs (msks F)))).length := by
    rw [mems_len]
    exact List.length_pos_iff.2 h4
  simp only [transOk, h3, Bool.true_and, decide_eq_true_eq]
  exact h5
theorem trans_twice {F : List (List Int)} (h : transOk F = true) : outM (transM (outM (transM F) true)) true = F := by
  obtain ⟨h1, h2⟩ := trans_parts h
  have hs := famOk_sys h1
  rw [trans_out, trans_out, msks_mems (mins_lt _), trs_twice hs.1 hs.2.1 hs.2.2.1]
  exact mems_msks (famOk_allV h1)

end Go.Proofs.Ytnfaihgnggmpkaa
