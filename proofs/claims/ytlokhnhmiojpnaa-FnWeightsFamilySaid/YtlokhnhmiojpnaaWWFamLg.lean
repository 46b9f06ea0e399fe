/- The walk of the law that weighted quorums are the minimal sets with enough votes. -/
import Derived.Test.YtlokhnhmiojpnaaWSetBg
import Derived.Test.YtlokhnhmiojpnaaWMajg
namespace Go.Proofs.Ytlokhnhmiojpnaa
open Go.RowKit

theorem wf_fam {v : List Int} {n : Int} (h : wfOk v n = true) : wOk v = true ∧ famOk (mems (mins (enoL v n))) = true ∧ 0 < (mems (mins (enoL v n))).length ∧ ∀ t, vld t = true → hasQR (mems (mins (enoL v n))) t = decide (n ≤ sumR v t) := by
  have hs := enoL_sys h
  have hf := sys_famOk hs
  simp only [wfOk, Bool.and_eq_true, decide_eq_true_eq] at h
  obtain ⟨⟨h1, h2⟩, h3⟩ := h
  refine ⟨h1, hf, ?_, fun t ht => ?_⟩
  · rw [mems_len]
    exact List.length_pos_iff.2 (mins_ne (enoL_msk v n) (mem_enoL.2 ⟨by omega, h3⟩ : 63 ∈ enoL v n))
  · have ht6 := msk_lt ht
    rw [hasQR, hf, ht, hasL_eq (famOk_allV hf) ht, msks_mems hs.1, mins_hasQ (enoL_msk v n) ht6, sumR_t h1 ht]
    show hasQ (enoL v n) (msk t) = _
    rw [Bool.eq_iff_iff, mem_hasQ, decide_eq_true_eq]
    constructor
    · rintro ⟨q, hq, hqs⟩
      obtain ⟨h5, h6⟩ := mem_enoL.1 hq
      have := wsum_mono h1 h5 ht6 hqs
      omega
    · intro h5
      exact ⟨msk t, mem_enoL.2 ⟨ht6, h5⟩, sub_refl ht6⟩

set_option maxRecDepth 100000 in
set_option maxHeartbeats 3200000 in
theorem walkWFamL (A B : Option Addr) (c d : Nat) (l m : List Int) (w : World) (ha : BL w A l) (hc : l.length ≤ c) (hmc : c ≤ maxLen) (hd : m.length ≤ d) (hmd : d ≤ maxLen) :
    Calls Try.prog 6 #[.slice A l.length c, .slice B m.length d] w fun e w' => e = .returned (.bool true) ∧ Below w.heap.size w w' := by
  have hm := Nat.le_trans hc hmc
  have hmm := Nat.le_trans hd hmd
  have hm1 := hm
  have hm2 := hmm
  unfold maxLen at hm1 hm2
  by_cases hl : l.length ≤ 1048576
  · by_cases hl2 : m.length ≤ 1048576
    · obtain ⟨ml, hml⟩ : ∃ ml, ml = m.length := ⟨_, rfl⟩
      rw [← hml] at hl2 hm2 ⊢
      clear hml hmm hd hmd
      go_enter Try.func6, Try.ntmps6
      go_wp2_with fail
      refine (drawWFam_any _ _ _ _ ha hc hm hmc).mono ?_
      rintro e w1 ⟨v, n, A1, c1, hv7, hn0, hn1, rfl, i1, B1⟩
      clear ha hm hc hmc
      have hvl : v.length ≤ 1048576 := by omega
      have hO := outM_len (enoL v n) (wfOk v n)
      have sO := outM_short (enoL v n) (wfOk v n)
      go_wp2_with fail
      refine (specWFam_any _ _ _ _ _ i1 hvl).mono ?_
      rintro e w2 ⟨A2, c2, rfl, OW, b2⟩
      have i2 := i1.below b2
      have B2 := below_step B1 b2
      clear i1 B1 b2
      go_wp2_with fail
      refine (implWFam_any _ _ _ _ _ i2 hvl).mono ?_
      rintro e w3 ⟨A3, c3, rfl, OG, b3⟩
      have i3 := (OW.below b3).iss
      have j3 := OG.iss
      have k3 := i2.below b3
      have B3 := below_step B2 b3
      clear i2 B2 b3 OW OG
      generalize hok : wfOk v n = ok at *
      have HB := Lib.hid hok
      clear hok
      cases ok
      · clear HB
        go_wp2_with fail
        refine (sameSets_yes _ _ _ _ _ _ j3 i3 (by omega) sO).mono ?_
        rintro e w4 ⟨rfl, d4⟩
        have B4 := below_step B3 d4.below
        have i4 := i3.below d4.below
        have j4 := j3.below d4.below
        clear B3 i3 j3 d4
        go_wp2_with fail
        refine (sameSets_yes _ _ _ _ _ _ j4 i4 (by omega) sO).mono ?_
        rintro e w5 ⟨rfl, d5⟩
        have B5 := below_step B4 d5.below
        clear B4 i4 j4 d5
        go_wp2
        go_ret
        exact ⟨rfl, B5⟩
      · go_wp2_with fail
        refine (sameSets_yes _ _ _ _ _ _ j3 i3 (by omega) sO).mono ?_
        rintro e w4 ⟨rfl, d4⟩
        have B4 := below_step B3 d4.below
        have j4 := j3.below d4.below
        have k4 := k3.below d4.below
        clear B3 i3 j3 d4 k3
        have HW := Lib.hid (wf_fam HB.out)
        have hF : outM (enoL v n) true = mems (mins (enoL v n)) := outM_true rfl
        rw [hF] at hO sO j4 ⊢
        clear hF HB
        have HF := Lib.hid HW.out.2.2.2
        have hFl : (mems (mins (enoL v n))).length ≤ 1048576 := by omega
        generalize mems (mins (enoL v n)) = F at *
        go_wp2
        go_loopw [11] (fun i wr => ∃ k : Nat, k ≤ 4 ∧ i = .int .i64 k ∧ Below w4.heap.size w4 wr) (fun i _ => 4 - (intOf i).toNat)
        case atStart => exact ⟨0, by omega, rfl, Below.refl _ _⟩
        case round =>
          obtain ⟨k, hk, rfl, hbel⟩ := hrel
          by_cases hlt : k < 4
          · have hkw : (ml : Int) + (k : Int) * 29 = ((ml + k * 29 : Nat) : Int) := by omega
            have hkn : ml + k * 29 ≤ 2000000 := by omega
            have hkl : IntKind.i64.wrap ((k : Int) * 29) = (k : Int) * 29 := by rw [IntKind.wrap_i64]; omega
            have hkl2 : IntKind.i64.wrap ((ml : Int) + (k : Int) * 29) = ((ml + k * 29 : Nat) : Int) := by rw [IntKind.wrap_i64]; omega
            obtain ⟨nn, hnn⟩ : ∃ nn, nn = ml + k * 29 := ⟨_, rfl⟩
            rw [← hnn] at hkw hkn hkl2
            have hn64 : nmk nn < 64 := nmk_lt nn
            have hmll := mem_len (nmk nn)
            obtain ⟨t, ht⟩ : ∃ t, t = mem (nmk nn) := ⟨_, rfl⟩
            have hvt : vld t = true := by rw [ht]; exact vld_mem hn64
            have htl : t.length ≤ 1048576 := by rw [ht]; omega
            have HS := Lib.hid (setB_any nn)
            rw [← ht] at HS
            have HQ := Lib.hid (HF.out t hvt)
            clear ht hvt hnn hmll hn64
            go_wp2_with fail
            refine (HS.out _ hkn).mono ?_
            rintro e w8 ⟨A8, c8, rfl, o8, b8⟩
            have u8 := (IL.of_own o8).1
            have hb8 := below_step hbel b8
            clear hbel b8 o8 HS hkw hkl hkl2 hkn
            go_wp2_with fail
            refine (implHasQ_any _ _ _ _ _ _ _ (j4.below hb8) u8 hFl sO htl).mono ?_
            rw [HQ.out]
            rintro e w9 ⟨rfl, b9⟩
            have hb9 := below_step hb8 b9
            have u9 := u8.below b9
            clear hb8 b9 u8
            go_wp2_with fail
            refine (implWSum_any _ _ _ _ _ _ _ (k4.below hb9) u9 hvl htl).mono ?_
            rintro e w10 ⟨rfl, b10⟩
            have hb10 := below_step hb9 b10
            clear hb9 b10 u9 HQ
            generalize sumR v t = sv at *
            have hne : (decide (n ≤ sv) != decide (n ≤ sv)) = false := by cases decide (n ≤ sv) <;> rfl
            go_wp2
            go_roundw
            case rel => exact ⟨k + 1, by omega, by go_num, hb10⟩
            case measure => simp [intOf]; omega
          · have hp0 : decide ((0 : Int) < (F.length : Int)) = true := decide_eq_true (by have := HW.out.2.2.1; omega)
            go_wp2_with fail
            refine (implFam_any _ _ _ _ (j4.below hbel) hFl sO).mono ?_
            rw [HW.out.2.1]
            rintro e w8 ⟨rfl, b8⟩
            have B8 := below_step B4 (below_step hbel b8)
            clear hbel b8
            go_wp2
            go_ret
            exact ⟨ret_bool (decide_eq_true HW.out.2.2.1), B8⟩
    · go_enter Try.func6, Try.ntmps6
      go_wp2_with fail
      go_ret
      exact ⟨rfl, Below.refl _ _⟩
  · go_enter Try.func6, Try.ntmps6
    go_wp2_with fail
    go_ret
    exact ⟨rfl, Below.refl _ _⟩
end Go.Proofs.Ytlokhnhmiojpnaa
