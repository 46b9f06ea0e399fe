/- The walk of the law that the transversals of the transversals are the original quorums. -/
import Derived.Test.YtgbijndfpbcjeaaDrawFg
namespace Go.Proofs.Ytgbijndfpbcjeaa
open Go.RowKit

theorem trans_out (F : List (List Int)) : outM (transM F) true = mems (mins (trs (msks F))) := by simp [outM, transM]
theorem trans_parts {F : List (List Int)} (h : transOk F = true) : famOk F = true ∧ msks F ≠ [] := by
  simp only [transOk, Bool.and_eq_true, decide_eq_true_eq] at h
  refine ⟨h.1, fun e => ?_⟩
  have : (msks F).length = F.length := by simp [msks]
  rw [e] at this
  simp at this
  omega
theorem trans_ok2 {F : List (List Int)} (h : transOk F = true) : transOk (outM (transM F) true) = true := by
  obtain ⟨h1, h2⟩ := trans_parts h
  have hs := famOk_sys h1
  rw [trans_out]
  have h3 := sys_famOk (mins_sys (trs_msk (msks F)) (trs_zero h2))
  have h4 := mins_ne (trs_msk (msks F)) (trs_all hs)
  have h5 : 0 < (mems (mins (trs (msks F)))).length := by
    rw [mems_len]
    exact List.length_pos_iff.2 h4
  simp only [transOk, h3, Bool.true_and, decide_eq_true_eq]
  exact h5
theorem trans_twice {F : List (List Int)} (h : transOk F = true) : outM (transM (outM (transM F) true)) true = F := by
  obtain ⟨h1, h2⟩ := trans_parts h
  have hs := famOk_sys h1
  rw [trans_out, trans_out, msks_mems (mins_lt _), trs_twice hs.1 hs.2.1 hs.2.2.1]
  exact mems_msks (famOk_allV h1)

set_option maxRecDepth 100000 in
set_option maxHeartbeats 3200000 in
theorem walkTwice (A : Option Addr) (c : Nat) (l : List Int) (w : World) (ha : BL w A l) (hc : l.length ≤ c) (hm : l.length ≤ maxLen) (hmc : c ≤ maxLen) :
    Calls Try.prog 5 #[.slice A l.length c] w fun e w' => e = .returned (.bool true) ∧ Below w.heap.size w w' := by
  have hm' := hm
  unfold maxLen at hm'
  by_cases hl : l.length ≤ 1048576
  · go_enter Try.func5, Try.ntmps5
    go_wp2_with fail
    refine (drawTrans_any _ _ _ _ ha hc hm hmc).mono ?_
    rintro e w1 ⟨F, A1, c1, hF, hS, rfl, i1, B1⟩
    clear ha hm
    have hFl : F.length ≤ 1048576 := by omega
    have hFs : Short F 1048576 := fun x hx => Nat.le_trans (hS x hx) (by omega)
    have hO := outM_len (transM F) (transOk F)
    have sO := outM_short (transM F) (transOk F)
    go_wp2_with fail
    refine (specTrans_any _ _ _ _ i1 hFl hFs).mono ?_
    rintro e w2 ⟨A2, c2, rfl, OW, b2⟩
    have i2 := i1.below b2
    have B2 := below_step B1 b2
    clear i1 B1 b2
    go_wp2_with fail
    refine (implTrans_any _ _ _ _ i2 hFl hFs).mono ?_
    rintro e w3 ⟨A3, c3, rfl, OG, b3⟩
    have i3 := (OW.below b3).iss
    have j3 := OG.iss
    have k3 := i2.below b3
    have B3 := below_step B2 b3
    clear i2 B2 b3 OW OG
    generalize hok : transOk F = ok at *
    have HB := Lib.hid hok
    clear hok
    cases ok
    · clear HB
      go_wp2_with fail
      refine (sameSets_yes _ _ _ _ _ _ j3 i3 (by omega) sO).mono ?_
      rintro e w4 ⟨rfl, d4⟩
      have B4 := below_step B3 d4.below
      have i4 := i3.below d4.below
      have j4 := j3.below d4.below
      clear B3 i3 j3 d4
      go_wp2_with fail
      refine (sameSets_yes _ _ _ _ _ _ j4 i4 (by omega) sO).mono ?_
      rintro e w5 ⟨rfl, d5⟩
      have B5 := below_step B4 d5.below
      clear B4 i4 j4 d5
      go_wp2
      go_ret
      exact ⟨rfl, B5⟩
    · have H2 := Lib.hid (And.intro (trans_ok2 HB.out) (trans_twice HB.out))
      generalize outM (transM F) true = T at *
      go_wp2_with fail
      refine (sameSets_yes _ _ _ _ _ _ j3 i3 (by omega) sO).mono ?_
      rintro e w4 ⟨rfl, d4⟩
      have B4 := below_step B3 d4.below
      have j4 := j3.below d4.below
      have k4 := k3.below d4.below
      clear B3 i3 j3 d4 k3
      go_wp2_with fail
      refine (implTrans_any _ _ _ _ j4 (by omega) sO).mono ?_
      rw [H2.out.1, H2.out.2]
      rintro e w5 ⟨A5, c5, rfl, O5, b5⟩
      have B5 := below_step B4 b5
      have k5 := k4.below b5
      have i5 := O5.iss
      clear B4 k4 b5 j4 O5
      go_wp2_with fail
      refine (sameSets_yes _ _ _ _ _ _ i5 k5 hFl hFs).mono ?_
      rintro e w6 ⟨rfl, d6⟩
      have B6 := below_step B5 d6.below
      clear B5 i5 k5 d6
      go_wp2
      go_ret
      exact ⟨rfl, B6⟩
  · go_enter Try.func5, Try.ntmps5
    go_wp2
    go_ret
    exact ⟨rfl, Below.refl _ _⟩
end Go.Proofs.Ytgbijndfpbcjeaa
