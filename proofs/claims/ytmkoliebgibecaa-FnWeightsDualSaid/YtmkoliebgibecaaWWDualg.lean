/- The walk of the law that prepare and accept votes that exceed the total always meet. -/
import Derived.Test.YtmkoliebgibecaaWLawsg
import Derived.Test.YtmkoliebgibecaaWMajg
import Derived.Deep.RegionLaw
namespace Go.Proofs.Ytmkoliebgibecaa
open Go.RowKit

theorem wd_len {v : List Int} {n t : Int} (hw : wOk v = true) (ht : wsum v 63 = t) {j k : Nat} {a b : List Int} (ha : (mems (mins (enoL v n)))[j]? = some a) (hb : (mems (mins (enoL v (t - n + 1))))[k]? = some b) : (both inter a b).length ≠ 0 := by
  obtain ⟨p, hp, rfl⟩ := mems_at ha
  obtain ⟨q, hq, rfl⟩ := mems_at hb
  have hp6 := mins_lt _ p hp
  have hq6 := mins_lt _ q hq
  rw [both_t (vld_mem hp6) (vld_mem hq6)]
  intro h0
  rw [inter_zero (vld_mem hp6) (vld_mem hq6), msk_mem hp6, msk_mem hq6] at h0
  have h1 := (mem_enoL.1 ((mem_mins (enoL_msk v n)).1 hp).1).2
  have h2 := (mem_enoL.1 ((mem_mins (enoL_msk v (t - n + 1))).1 hq).1).2
  have h3 := wsum_disj hw h0
  omega
theorem wd_ok {v : List Int} {n t : Int} (h : wfOk v n = true) (ht : wsum v 63 = t) : wOk v = true ∧ wfOk v (t - n + 1) = true ∧ 1 ≤ n ∧ n ≤ t ∧ t ≤ 54 ∧ sumR v (mem 63) = t := by
  simp only [wfOk, Bool.and_eq_true, decide_eq_true_eq] at h
  obtain ⟨⟨h1, h2⟩, h3⟩ := h
  have h4 := wsum_rng h1 63
  refine ⟨h1, ?_, h2, by omega, by omega, by rw [sumR_all h1, ht]⟩
  simp only [wfOk, h1, Bool.true_and, Bool.and_eq_true, decide_eq_true_eq]
  omega

set_option maxRecDepth 100000 in
set_option maxHeartbeats 3200000 in
theorem walkWDual (A : Option Addr) (c : Nat) (l : List Int) (w : World) (ha : BL w A l) (hc : l.length ≤ c) (hm : l.length ≤ maxLen) (hmc : c ≤ maxLen) :
    Calls Try.prog 6 #[.slice A l.length c] w fun e w' => e = .returned (.bool true) ∧ Below w.heap.size w w' := by
  have hm' := hm
  unfold maxLen at hm'
  by_cases hl : l.length ≤ 1048576
  · go_enter Try.func6, Try.ntmps6
    go_wp2_with fail
    refine (drawWFam_any _ _ _ _ ha hc hm hmc).mono ?_
    rintro e w1 ⟨v, n, A1, c1, hv7, hn0, hn1, rfl, i1, B1⟩
    clear ha hm
    have hvl : v.length ≤ 1048576 := by omega
    have hO := outM_len (enoL v n) (wfOk v n)
    have sO := outM_short (enoL v n) (wfOk v n)
    go_wp2_with fail
    refine (specWFam_any _ _ _ _ _ i1 hvl).mono ?_
    rintro e w2 ⟨A2, c2, rfl, OW, b2⟩
    have i2 := i1.below b2
    have B2 := below_step B1 b2
    clear i1 B1 b2
    go_wp2_with fail
    refine (implWFam_any _ _ _ _ _ i2 hvl).mono ?_
    rintro e w3 ⟨A3, c3, rfl, OG, b3⟩
    have i3 := (OW.below b3).iss
    have j3 := OG.iss
    have k3 := i2.below b3
    have B3 := below_step B2 b3
    clear i2 B2 b3 OW OG
    generalize hok : wfOk v n = ok at *
    have HB := Lib.hid hok
    clear hok
    cases ok
    · clear HB
      go_wp2_with fail
      refine (sameSets_yes _ _ _ _ _ _ j3 i3 (by omega) sO).mono ?_
      rintro e w4 ⟨rfl, d4⟩
      have B4 := below_step B3 d4.below
      have i4 := i3.below d4.below
      have j4 := j3.below d4.below
      clear B3 i3 j3 d4
      go_wp2_with fail
      refine (sameSets_yes _ _ _ _ _ _ j4 i4 (by omega) sO).mono ?_
      rintro e w5 ⟨rfl, d5⟩
      have B5 := below_step B4 d5.below
      clear B4 i4 j4 d5
      go_wp2
      go_ret
      exact ⟨rfl, B5⟩
    · go_wp2_with fail
      refine (sameSets_yes _ _ _ _ _ _ j3 i3 (by omega) sO).mono ?_
      rintro e w4 ⟨rfl, d4⟩
      have B4 := below_step B3 d4.below
      have j4 := j3.below d4.below
      have k4 := k3.below d4.below
      clear B3 i3 j3 d4 k3
      obtain ⟨t, ht⟩ : ∃ t, wsum v 63 = t := ⟨_, rfl⟩
      obtain ⟨hw, hw2, hn1', hnt, ht54, hsa⟩ := wd_ok HB.out ht
      have HSA := Lib.hid hsa
      have HL := Lib.hid (fun (j k : Nat) (a b : List Int) (h1 : (mems (mins (enoL v n)))[j]? = some a) (h2 : (mems (mins (enoL v (t - n + 1))))[k]? = some b) => wd_len hw ht h1 h2)
      have HW2 := Lib.hid hw2
      have hF : outM (enoL v n) true = mems (mins (enoL v n)) := outM_true rfl
      rw [hF] at hO sO j4 ⊢
      clear hF HB hsa hw hw2 ht
      have sh := mems_short (mins (enoL v n)) 6 (Nat.le_refl _)
      generalize mems (mins (enoL v n)) = F at *
      go_wp2_with fail
      refine (allM_any _).mono ?_
      rintro e w5 ⟨A5, c5, rfl, o5, b5⟩
      have B5 := below_step B4 b5
      have k5 := k4.below b5
      have j5 := j4.below b5
      have u5 := (IL.of_own o5).1
      have h6 := mem_len 63
      clear B4 k4 j4 b5 o5
      go_wp2_with fail
      refine (implWSum_any _ _ _ _ _ _ _ k5 u5 hvl (by omega)).mono ?_
      rw [HSA.out]
      rintro e w6 ⟨rfl, b6⟩
      have B6 := below_step B5 b6
      have k6 := k5.below b6
      have j6 := j5.below b6
      clear B5 k5 j5 u5 b6
      have hnw : IntKind.i64.wrap (t - n) = t - n := by rw [IntKind.wrap_i64]; omega
      have hnw2 : IntKind.i64.wrap (t - n + 1) = t - n + 1 := by rw [IntKind.wrap_i64]; omega
      have hO2 := outM_len (enoL v (t - n + 1)) (wfOk v (t - n + 1))
      go_wp2_with fail
      refine (implWFam_any _ _ _ _ _ k6 hvl).mono ?_
      rw [HW2.out] at hO2 ⊢
      have hF2 : outM (enoL v (t - n + 1)) true = mems (mins (enoL v (t - n + 1))) := outM_true rfl
      rw [hF2] at hO2 ⊢
      have sh2 := mems_short (mins (enoL v (t - n + 1))) 6 (Nat.le_refl _)
      clear hF2 HW2 hnw hnw2
      generalize mems (mins (enoL v (t - n + 1))) = G at *
      rintro e w7 ⟨A7, c7, rfl, O7, b7⟩
      have B7 := below_step B6 b7
      have j7 := j6.below b7
      have g7 := O7.iss
      clear B6 k6 j6 b7 O7
      go_wp2
      go_loopw [12] (fun i wr => ∃ k : Nat, k ≤ F.length ∧ i = .int .i64 k ∧ Below w7.heap.size w7 wr) (fun i _ => F.length - (intOf i).toNat)
      case atStart => exact ⟨0, Nat.zero_le _, rfl, Below.refl _ _⟩
      case round =>
        obtain ⟨k, hk, rfl, hbel⟩ := hrel
        by_cases hlt : k < F.length
        · have H0 := Lib.hid hbel
          clear hbel
          go_wp2
          go_loopw [13] (fun i wr => ∃ j : Nat, j ≤ G.length ∧ i = .int .i64 j ∧ Below w7.heap.size w7 wr) (fun i _ => G.length - (intOf i).toNat)
          case atStart => exact ⟨0, Nat.zero_le _, rfl, H0.out⟩
          case round =>
            clear H0
            obtain ⟨j, hj, rfl, hbel⟩ := hrel
            by_cases hjt : j < G.length
            · obtain ⟨b1, off1, p, P1, d1, e1, hx1, hc1, hil1⟩ := (j7.below hbel).at_ hlt
              obtain ⟨b2, off2, q, P2, d2, e2, hx2, hc2, hil2⟩ := (g7.below hbel).at_ hjt
              subst e1 e2
              have hpl := sh.at_ hx1
              have hql := sh2.at_ hx2
              have h0 := HL.out _ _ _ _ hx1 hx2
              have h0b : (((both inter p q).length : Int) == 0) = false := beq_eq_false_iff_ne.2 (by omega)
              have hki : (0 : Int) ≤ (k : Int) := by omega
              have hki2 : (k : Int) < (F.length : Int) := by omega
              have hji : (0 : Int) ≤ (j : Int) := by omega
              have hji2 : (j : Int) < (G.length : Int) := by omega
              have hdw : Below wr.heap.size wr wr.drew := (Below.refl _ _).drew
              have HI := Lib.hid (fun (W : World) (hbW : Below wr.heap.size wr W) => implInter_any P1 P2 d1 d2 p q W (hil1.below hbW) (hil2.below hbW) (by omega) (by omega))
              clear hx1 hx2 h0
              go_wp2_with fail
              go_region_law (first
                | (go_simp; go_at_call 19; refine (HI.out _ hdw).mono ?_; rintro e w8 ⟨A8, c8, rfl, o8, b8⟩; have B8 : Below w7.heap.size w7 w8 := below_step hbel ⟨b8.os, b8.tape, b8.output, b8.size, b8.block⟩)
                | fail)
              all_goals (
                clear HI b8 o8 hdw hc1 hc2 hil1 hil2 hbel
                go_wp2
                go_roundw
                (case rel => exact ⟨j + 1, by omega, by go_num, B8⟩)
                (case measure => simp [intOf]; omega))
            · go_wp2
              go_roundw
              case rel => exact ⟨k + 1, by omega, by go_num, hbel⟩
              case measure => simp [intOf]; omega
        · go_wp2
          go_ret
          exact ⟨rfl, below_step B7 hbel⟩
  · go_enter Try.func6, Try.ntmps6
    go_wp2
    go_ret
    exact ⟨rfl, Below.refl _ _⟩
end Go.Proofs.Ytmkoliebgibecaa
