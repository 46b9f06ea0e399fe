/- The walk of the law that transversals hit every quorum. -/
import Derived.Test.YtngacjfoldgjpaaGreatDoorWSetBg
import Derived.Test.YtngacjfoldgjpaaGreatDoorDrawFg
import Derived.Test.YtngacjfoldgjpaaGreatDoorWTwiceg
namespace Go.Proofs.YtngacjfoldgjpaaGreatDoor
open Go.RowKit

theorem trs_hasQ {K : List Nat} (_ : Msk K) {s : Nat} (hs : s < 64) : hasQ (trs K) s = hitsQ K s := by
  rw [Bool.eq_iff_iff, mem_hasQ]
  constructor
  · rintro ⟨q, hq, hqs⟩
    obtain ⟨hq6, hh⟩ := mem_trs.1 hq
    refine hits_iff.2 fun r hr e => ?_
    exact hits_iff.1 hh r hr (and_sub hq6 hs hqs e)
  · intro h
    exact ⟨s, mem_trs.2 ⟨hs, h⟩, sub_refl hs⟩
theorem trans_laws {F : List (List Int)} (h : transOk F = true) : famOk (outM (transM F) true) = true ∧ 0 < (outM (transM F) true).length ∧ ∀ m, m < 64 → hasQR (outM (transM F) true) (mem m) = hitsL F (mem m) := by
  obtain ⟨h1, h2⟩ := trans_parts h
  have h3 := trans_ok2 h
  simp only [transOk, Bool.and_eq_true, decide_eq_true_eq] at h3
  refine ⟨h3.1, h3.2, fun m hm => ?_⟩
  have hv := vld_mem hm
  have hF := famOk_sys h1
  rw [hasQR, h3.1, hv, hasL_eq (famOk_allV h3.1) hv, msk_mem hm, trans_out, msks_mems (mins_lt _), mins_hasQ (trs_msk _) hm, trs_hasQ hF.1 hm, hitsL_eq (famOk_allV h1) hm]
  rfl
theorem transOk_fam {F : List (List Int)} (h : transOk F = true) : famOk F = true := (trans_parts h).1
theorem both_inter {p t : List Int} (hp : vld p = true) (ht : vld t = true) : both inter p t = inter p t := both_t hp ht

end Go.Proofs.YtngacjfoldgjpaaGreatDoor
