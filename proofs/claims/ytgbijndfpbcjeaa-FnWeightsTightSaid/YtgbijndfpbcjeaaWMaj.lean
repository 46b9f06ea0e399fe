/- The walk of the law that two weighted majorities meet. -/
import Derived.Test.YtgbijndfpbcjeaaWtL
import Derived.Test.YtgbijndfpbcjeaaWMin
import Derived.Test.YtgbijndfpbcjeaaDrawW
import Derived.Deep.RegionLaw
namespace Go.Proofs.Ytgbijndfpbcjeaa
open Go.RowKit

theorem mems_at {K : List Nat} {k : Nat} {l : List Int} (h : (mems K)[k]? = some l) : ∃ m, m ∈ K ∧ l = mem m := by
  obtain ⟨m, hm, rfl⟩ : ∃ m, K[k]? = some m ∧ mem m = l := by simpa [mems] using h
  exact ⟨m, List.mem_of_getElem? hm, rfl⟩
theorem maj_len {v : List Int} {n : Int} (hv : wfOk v n = true) (hn : majR v ≤ n) {j k : Nat} {a b : List Int} (ha : (mems (mins (enoL v n)))[j]? = some a) (hb : (mems (mins (enoL v n)))[k]? = some b) : (both inter a b).length ≠ 0 := by
  obtain ⟨p, hp, rfl⟩ := mems_at ha
  obtain ⟨q, hq, rfl⟩ := mems_at hb
  have hw : wOk v = true := by simp only [wfOk, Bool.and_eq_true] at hv; exact hv.1.1
  have hp6 := mins_lt _ p hp
  have hq6 := mins_lt _ q hq
  rw [both_t (vld_mem hp6) (vld_mem hq6)]
  intro h0
  rw [inter_zero (vld_mem hp6) (vld_mem hq6), msk_mem hp6, msk_mem hq6] at h0
  exact maj_meet hw hn hp hq h0
theorem outM_true {M : List Nat} {b : Bool} (h : b = true) : outM M b = mems (mins M) := by simp [outM, h]

set_option maxRecDepth 100000 in
set_option maxHeartbeats 3200000 in
theorem walkMaj (A : Option Addr) (c : Nat) (l : List Int) (w : World) (ha : BL w A l) (hc : l.length ≤ c) (hm : l.length ≤ maxLen) (hmc : c ≤ maxLen) :
    Calls Try.prog 7 #[.slice A l.length c] w fun e w' => e = .returned (.bool true) ∧ Below w.heap.size w w' := by
  have hm' := hm
  unfold maxLen at hm'
  by_cases hl : l.length ≤ 1048576
  · go_enter Try.func7, Try.ntmps7
    go_wp2_with fail
    refine (drawWFam_any _ _ _ _ ha hc hm hmc).mono ?_
    rintro e w1 ⟨v, n, A1, c1, hv7, hn0, hn1, rfl, i1, B1⟩
    clear ha hm
    have hvl : v.length ≤ 1048576 := by omega
    have hO := outM_len (enoL v n) (wfOk v n)
    have sO := outM_short (enoL v n) (wfOk v n)
    go_wp2_with fail
    refine (specWFam_any _ _ _ _ _ i1 hvl).mono ?_
    rintro e w2 ⟨A2, c2, rfl, OW, b2⟩
    have i2 := i1.below b2
    have B2 := below_step B1 b2
    clear i1 B1 b2
    go_wp2_with fail
    refine (implWFam_any _ _ _ _ _ i2 hvl).mono ?_
    rintro e w3 ⟨A3, c3, rfl, OG, b3⟩
    have i3 := (OW.below b3).iss
    have j3 := OG.iss
    have k3 := i2.below b3
    have B3 := below_step B2 b3
    clear i2 B2 b3 OW OG
    generalize hok : wfOk v n = ok at *
    have HB := Lib.hid hok
    clear hok
    cases ok
    · clear HB
      go_wp2_with fail
      refine (sameSets_yes _ _ _ _ _ _ j3 i3 (by omega) sO).mono ?_
      rintro e w4 ⟨rfl, d4⟩
      have B4 := below_step B3 d4.below
      have i4 := i3.below d4.below
      have j4 := j3.below d4.below
      clear B3 i3 j3 d4
      go_wp2_with fail
      refine (sameSets_yes _ _ _ _ _ _ j4 i4 (by omega) sO).mono ?_
      rintro e w5 ⟨rfl, d5⟩
      have B5 := below_step B4 d5.below
      clear B4 i4 j4 d5
      go_wp2
      go_ret
      exact ⟨rfl, B5⟩
    · go_wp2_with fail
      refine (sameSets_yes _ _ _ _ _ _ j3 i3 (by omega) sO).mono ?_
      rintro e w4 ⟨rfl, d4⟩
      have B4 := below_step B3 d4.below
      have j4 := j3.below d4.below
      have k4 := k3.below d4.below
      clear B3 i3 j3 d4 k3
      go_wp2_with fail
      refine (implWMaj_any _ _ _ _ k4 hvl).mono ?_
      rintro e w5 ⟨rfl, b5⟩
      have B5 := below_step B4 b5
      have j5 := j4.below b5
      clear B4 j4 b5 k4
      by_cases hmj : n < majR v
      · go_wp2
        go_ret
        exact ⟨rfl, B5⟩
      · have HL := Lib.hid (fun (j k : Nat) (a b : List Int) (h1 : (mems (mins (enoL v n)))[j]? = some a) (h2 : (mems (mins (enoL v n)))[k]? = some b) => maj_len HB.out (show majR v ≤ n by omega) h1 h2)
        have hF : outM (enoL v n) true = mems (mins (enoL v n)) := outM_true rfl
        rw [hF] at hO sO j5 ⊢
        have sh := mems_short (mins (enoL v n)) 6 (Nat.le_refl _)
        clear hF HB
        generalize mems (mins (enoL v n)) = F at *
        go_wp2
        go_loopw [9] (fun i wr => ∃ k : Nat, k ≤ F.length ∧ i = .int .i64 k ∧ Below w5.heap.size w5 wr) (fun i _ => F.length - (intOf i).toNat)
        case atStart => exact ⟨0, Nat.zero_le _, rfl, Below.refl _ _⟩
        case round =>
          obtain ⟨k, hk, rfl, hbel⟩ := hrel
          by_cases hlt : k < F.length
          · have H0 := Lib.hid hbel
            clear hbel
            go_wp2
            go_loopw [10] (fun i wr => ∃ j : Nat, j ≤ k ∧ i = .int .i64 j ∧ Below w5.heap.size w5 wr) (fun i _ => k - (intOf i).toNat)
            case atStart => exact ⟨0, Nat.zero_le _, rfl, H0.out⟩
            case round =>
              clear H0
              obtain ⟨j, hj, rfl, hbel⟩ := hrel
              by_cases hjt : j < k
              · obtain ⟨b1, off1, p, P1, d1, rfl, hx1, hc1, hil1⟩ := (j5.below hbel).at_ hlt
                obtain ⟨b2, off2, q, P2, d2, e2, hx2, hc2, hil2⟩ := (j5.below hbel).at_ (k := j) (by omega)
                injection e2 with e2
                injection e2 with e3 e4
                subst e3 e4
                have hpl := sh.at_ hx1
                have hql := sh.at_ hx2
                have h0 := HL.out _ _ _ _ hx1 hx2
                have h0b : (((both inter p q).length : Int) == 0) = false := beq_eq_false_iff_ne.2 (by omega)
                have hki : (0 : Int) ≤ (k : Int) := by omega
                have hki2 : (k : Int) < (F.length : Int) := by omega
                have hji : (0 : Int) ≤ (j : Int) := by omega
                have hji2 : (j : Int) < (F.length : Int) := by omega
                have hdw : Below wr.heap.size wr wr.drew := (Below.refl _ _).drew
                have HI := Lib.hid (fun (W : World) (hbW : Below wr.heap.size wr W) => implInter_any P1 P2 d1 d2 p q W (hil1.below hbW) (hil2.below hbW) (by omega) (by omega))
                clear hx1 hx2 h0
                go_wp2_with fail
                go_region_law (first
                  | (go_simp; go_at_call 35; refine (HI.out _ hdw).mono ?_; rintro e w6 ⟨A6, c6, rfl, o6, b6⟩; have B6 : Below w5.heap.size w5 w6 := below_step hbel ⟨b6.os, b6.tape, b6.output, b6.size, b6.block⟩)
                  | fail)
                all_goals (
                  clear HI b6 o6 hdw hc1 hc2 hil1 hil2 hbel
                  go_wp2
                  go_roundw
                  (case rel => exact ⟨j + 1, by omega, by go_num, B6⟩)
                  (case measure => simp [intOf]; omega))
              · go_wp2
                go_roundw
                case rel => exact ⟨k + 1, by omega, by go_num, hbel⟩
                case measure => simp [intOf]; omega
          · go_wp2
            go_ret
            exact ⟨rfl, below_step B5 hbel⟩
  · go_enter Try.func7, Try.ntmps7
    go_wp2
    go_ret
    exact ⟨rfl, Below.refl _ _⟩
end Go.Proofs.Ytgbijndfpbcjeaa
