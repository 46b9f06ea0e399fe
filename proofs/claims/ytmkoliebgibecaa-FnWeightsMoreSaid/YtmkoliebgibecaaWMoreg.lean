/- The walk of the law that more required votes mean larger quorums. -/
import Derived.Test.YtmkoliebgibecaaWLawsg
import Derived.Test.YtmkoliebgibecaaWMajg
import Derived.Deep.RegionLaw
namespace Go.Proofs.Ytmkoliebgibecaa
open Go.RowKit

theorem wf_parts {v : List Int} {n : Int} (h : wfOk v n = true) : wOk v = true ∧ 1 ≤ n ∧ n ≤ wsum v 63 := by
  simp only [wfOk, Bool.and_eq_true, decide_eq_true_eq] at h
  exact ⟨h.1.1, h.1.2, h.2⟩
theorem more_at {v : List Int} {n : Int} (h : wfOk v n = true) {j : Nat} {a : List Int} (ha : (mems (mins (enoL v (n + 1))))[j]? = some a) : hasQR (mems (mins (enoL v n))) a = true := by
  obtain ⟨m, hm, rfl⟩ := mems_at ha
  have hm6 := mins_lt _ m hm
  have h1 := (mem_enoL.1 ((mem_mins (enoL_msk v (n + 1))).1 hm).1).2
  have hs := enoL_sys h
  have h2 : hasQ (enoL v n) m = true := mem_hasQ.2 ⟨m, mem_enoL.2 ⟨hm6, by omega⟩, sub_refl hm6⟩
  rw [hasQR, sys_famOk hs, vld_mem hm6, hasL_eq (famOk_allV (sys_famOk hs)) (vld_mem hm6), msk_mem hm6, msks_mems hs.1, mins_hasQ (enoL_msk v n) hm6, h2]
  rfl
theorem more_no {v : List Int} {n : Int} (h : wfOk v n = true) (h2 : wfOk v (n + 1) = false) : n = wsum v 63 := by
  obtain ⟨h3, h4, h5⟩ := wf_parts h
  simp [wfOk, h3] at h2
  omega

set_option maxRecDepth 100000 in
set_option maxHeartbeats 3200000 in
theorem walkMore (A : Option Addr) (c : Nat) (l : List Int) (w : World) (ha : BL w A l) (hc : l.length ≤ c) (hm : l.length ≤ maxLen) (hmc : c ≤ maxLen) :
    Calls Try.prog 8 #[.slice A l.length c] w fun e w' => e = .returned (.bool true) ∧ Below w.heap.size w w' := by
  have hm' := hm
  unfold maxLen at hm'
  by_cases hl : l.length ≤ 1048576
  · go_enter Try.func8, Try.ntmps8
    go_wp2_with fail
    refine (drawWFam_any _ _ _ _ ha hc hm hmc).mono ?_
    rintro e w1 ⟨v, n, A1, c1, hv7, hn0, hn1, rfl, i1, B1⟩
    clear ha hm
    have hvl : v.length ≤ 1048576 := by omega
    have hO := outM_len (enoL v n) (wfOk v n)
    have sO := outM_short (enoL v n) (wfOk v n)
    go_wp2_with fail
    refine (specWFam_any _ _ _ _ _ i1 hvl).mono ?_
    rintro e w2 ⟨A2, c2, rfl, OW, b2⟩
    have i2 := i1.below b2
    have B2 := below_step B1 b2
    clear i1 B1 b2
    go_wp2_with fail
    refine (implWFam_any _ _ _ _ _ i2 hvl).mono ?_
    rintro e w3 ⟨A3, c3, rfl, OG, b3⟩
    have i3 := (OW.below b3).iss
    have j3 := OG.iss
    have k3 := i2.below b3
    have B3 := below_step B2 b3
    clear i2 B2 b3 OW OG
    generalize hok : wfOk v n = ok at *
    have HB := Lib.hid hok
    clear hok
    cases ok
    · clear HB
      go_wp2_with fail
      refine (sameSets_yes _ _ _ _ _ _ j3 i3 (by omega) sO).mono ?_
      rintro e w4 ⟨rfl, d4⟩
      have B4 := below_step B3 d4.below
      have i4 := i3.below d4.below
      have j4 := j3.below d4.below
      clear B3 i3 j3 d4
      go_wp2_with fail
      refine (sameSets_yes _ _ _ _ _ _ j4 i4 (by omega) sO).mono ?_
      rintro e w5 ⟨rfl, d5⟩
      have B5 := below_step B4 d5.below
      clear B4 i4 j4 d5
      go_wp2
      go_ret
      exact ⟨rfl, B5⟩
    · go_wp2_with fail
      refine (sameSets_yes _ _ _ _ _ _ j3 i3 (by omega) sO).mono ?_
      rintro e w4 ⟨rfl, d4⟩
      have B4 := below_step B3 d4.below
      have j4 := j3.below d4.below
      have k4 := k3.below d4.below
      clear B3 i3 j3 d4 k3
      have B5 := B4
      have j5 := j4
      have HP := Lib.hid (wf_parts HB.out)
      have HNO := Lib.hid (fun (h2 : wfOk v (n + 1) = false) => more_no HB.out h2)
      have HMO := Lib.hid (fun (j : Nat) (a : List Int) (h1 : (mems (mins (enoL v (n + 1))))[j]? = some a) => more_at HB.out h1)
      have hnw : IntKind.i64.wrap (n + 1) = n + 1 := by rw [IntKind.wrap_i64]; omega
      have hF : outM (enoL v n) true = mems (mins (enoL v n)) := outM_true rfl
      rw [hF] at hO sO j5 ⊢
      clear hF HB B4 j4
      have hFl : (mems (mins (enoL v n))).length ≤ 1048576 := by omega
      generalize mems (mins (enoL v n)) = F at *
      have hO2 := outM_len (enoL v (n + 1)) (wfOk v (n + 1))
      have sO2 := outM_short (enoL v (n + 1)) (wfOk v (n + 1))
      go_wp2_with fail
      refine (implWFam_any _ _ _ _ _ k4 hvl).mono ?_
      rintro e w6 ⟨A6, c6, rfl, O6, b6⟩
      have B6 := below_step B5 b6
      have j6 := j5.below b6
      have k6 := k4.below b6
      have g6 := O6.iss
      clear B5 j5 k4 b6 O6
      cases hok2 : wfOk v (n + 1)
      · have HE := Lib.hid (HNO.out hok2)
        have HSA := Lib.hid (sumR_all HP.out.1)
        rw [hok2] at *
        clear hok2 HNO HMO g6 hO2 sO2
        go_wp2_with fail
        refine (allM_any _).mono ?_
        rintro e w7 ⟨A7, c7, rfl, o7, b7⟩
        have B7 := below_step B6 b7
        have k7 := k6.below b7
        have u7 := (IL.of_own o7).1
        have h6 := mem_len 63
        clear B6 k6 j6 b7 o7
        go_wp2_with fail
        refine (implWSum_any _ _ _ _ _ _ _ k7 u7 hvl (by omega)).mono ?_
        rw [HSA.out, ← HE.out]
        rintro e w8 ⟨rfl, b8⟩
        have B8 := below_step B7 b8
        clear B7 k7 u7 b8
        go_wp2
        go_ret
        exact ⟨rfl, B8⟩
      · have hF2 : outM (enoL v (n + 1)) true = mems (mins (enoL v (n + 1))) := outM_true rfl
        rw [hok2] at hO2 sO2 g6
        rw [hF2] at hO2 sO2 g6 ⊢
        clear hok2 HNO hF2
        have sh := mems_short (mins (enoL v (n + 1))) 6 (Nat.le_refl _)
        generalize mems (mins (enoL v (n + 1))) = G at *
        go_wp2
        go_loopw [11] (fun i wr => ∃ k : Nat, k ≤ G.length ∧ i = .int .i64 k ∧ Below w6.heap.size w6 wr) (fun i _ => G.length - (intOf i).toNat)
        case atStart => exact ⟨0, Nat.zero_le _, rfl, Below.refl _ _⟩
        case round =>
          obtain ⟨k, hk, rfl, hbel⟩ := hrel
          by_cases hlt : k < G.length
          · obtain ⟨b1, off1, p, P1, d1, e1, hx1, hc1, hil1⟩ := (g6.below hbel).at_ hlt
            subst e1
            have hpl := sh.at_ hx1
            have HQ := Lib.hid (HMO.out _ _ hx1)
            have hki : (0 : Int) ≤ (k : Int) := by omega
            have hki2 : (k : Int) < (G.length : Int) := by omega
            clear hx1
            go_wp2_with fail
            refine (implHasQ_any _ _ _ _ _ _ _ (j6.below hbel) hil1 hFl sO (by omega)).mono ?_
            rw [HQ.out]
            rintro e w7 ⟨rfl, b7⟩
            have hb7 := below_step hbel b7
            clear hbel b7 hc1 hil1
            go_wp2
            go_roundw
            case rel => exact ⟨k + 1, by omega, by go_num, hb7⟩
            case measure => simp [intOf]; omega
          · go_wp2
            go_ret
            exact ⟨rfl, below_step B6 hbel⟩
  · go_enter Try.func8, Try.ntmps8
    go_wp2
    go_ret
    exact ⟨rfl, Below.refl _ _⟩
end Go.Proofs.Ytmkoliebgibecaa
