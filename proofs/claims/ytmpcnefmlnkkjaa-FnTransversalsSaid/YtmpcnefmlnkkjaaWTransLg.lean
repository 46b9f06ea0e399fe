/- The walk of the law that transversals hit every quorum. -/
import Derived.Test.YtmpcnefmlnkkjaaWSetBg
import Derived.Test.YtmpcnefmlnkkjaaDrawFg
import Derived.Test.YtmpcnefmlnkkjaaWTwiceg
namespace Go.Proofs.Ytmpcnefmlnkkjaa
open Go.RowKit

theorem trs_hasQ {K : List Nat} (_ : Msk K) {s : Nat} (hs : s < 64) : hasQ (trs K) s = hitsQ K s := by
  rw [Bool.eq_iff_iff, mem_hasQ]
  constructor
  · rintro ⟨q, hq, hqs⟩
    obtain ⟨hq6, hh⟩ := mem_trs.1 hq
    refine hits_iff.2 fun r hr e => ?_
    exact hits_iff.1 hh r hr (and_sub hq6 hs hqs e)
  · intro h
    exact ⟨s, mem_trs.2 ⟨hs, h⟩, sub_refl hs⟩
theorem trans_laws {F : List (List Int)} (h : transOk F = true) : famOk (outM (transM F) true) = true ∧ 0 < (outM (transM F) true).length ∧ ∀ m, m < 64 → hasQR (outM (transM F) true) (mem m) = hitsL F (mem m) := by
  obtain ⟨h1, h2⟩ := trans_parts h
  have h3 := trans_ok2 h
  simp only [transOk, Bool.and_eq_true, decide_eq_true_eq] at h3
  refine ⟨h3.1, h3.2, fun m hm => ?_⟩
  have hv := vld_mem hm
  have hF := famOk_sys h1
  rw [hasQR, h3.1, hv, hasL_eq (famOk_allV h3.1) hv, msk_mem hm, trans_out, msks_mems (mins_lt _), mins_hasQ (trs_msk _) hm, trs_hasQ hF.1 hm, hitsL_eq (famOk_allV h1) hm]
  rfl
theorem transOk_fam {F : List (List Int)} (h : transOk F = true) : famOk F = true := (trans_parts h).1
theorem both_inter {p t : List Int} (hp : vld p = true) (ht : vld t = true) : both inter p t = inter p t := both_t hp ht

set_option maxRecDepth 100000 in
set_option maxHeartbeats 6400000 in
theorem walkTransL (A B : Option Addr) (c d : Nat) (l m : List Int) (w : World) (ha : BL w A l) (hc : l.length ≤ c) (hmc : c ≤ maxLen) (hd : m.length ≤ d) (hmd : d ≤ maxLen) :
    Calls Try.prog 6 #[.slice A l.length c, .slice B m.length d] w fun e w' => e = .returned (.bool true) ∧ Below w.heap.size w w' := by
  have hm := Nat.le_trans hc hmc
  have hmm := Nat.le_trans hd hmd
  have hm1 := hm
  have hm2 := hmm
  unfold maxLen at hm1 hm2
  by_cases hl : l.length ≤ 1048576
  · by_cases hl2 : m.length ≤ 1048576
    · obtain ⟨ml, hml⟩ : ∃ ml, ml = m.length := ⟨_, rfl⟩
      rw [← hml] at hl2 hm2 ⊢
      clear hml hmm hd hmd
      go_enter Try.func6, Try.ntmps6
      go_wp2_with fail
      refine (drawTrans_any _ _ _ _ ha hc hm hmc).mono ?_
      rintro e w1 ⟨F, A1, c1, hF, hS, rfl, i1, B1⟩
      clear ha hm hc hmc
      have hFl : F.length ≤ 1048576 := by omega
      have hFs : Short F 1048576 := fun x hx => Nat.le_trans (hS x hx) (by omega)
      have hO := outM_len (transM F) (transOk F)
      have sO := outM_short (transM F) (transOk F)
      go_wp2_with fail
      refine (specTrans_any _ _ _ _ i1 hFl hFs).mono ?_
      rintro e w2 ⟨A2, c2, rfl, OW, b2⟩
      have i2 := i1.below b2
      have B2 := below_step B1 b2
      clear i1 B1 b2
      go_wp2_with fail
      refine (implTrans_any _ _ _ _ i2 hFl hFs).mono ?_
      rintro e w3 ⟨A3, c3, rfl, OG, b3⟩
      have k3 := (OW.below b3).iss
      have j3 := OG.iss
      have i3 := i2.below b3
      have B3 := below_step B2 b3
      clear i2 B2 b3 OW OG
      generalize hok : transOk F = ok at *
      cases ok
      · clear hok
        go_wp2_with fail
        refine (sameSets_yes _ _ _ _ _ _ j3 k3 (by omega) sO).mono ?_
        rintro e w4 ⟨rfl, d4⟩
        have B4 := below_step B3 d4.below
        have k4 := k3.below d4.below
        have j4 := j3.below d4.below
        clear B3 k3 j3 d4
        go_wp2_with fail
        refine (sameSets_yes _ _ _ _ _ _ j4 k4 (by omega) sO).mono ?_
        rintro e w5 ⟨rfl, d5⟩
        have B5 := below_step B4 d5.below
        clear B4 k4 j4 d5
        go_wp2
        go_ret
        exact ⟨rfl, B5⟩
      · have HC := Lib.hid (trans_laws hok)
        have HV := Lib.hid (famOk_allV (transOk_fam hok))
        clear hok
        go_wp2_with fail
        refine (sameSets_yes _ _ _ _ _ _ j3 k3 (by omega) sO).mono ?_
        rintro e w4 ⟨rfl, d4⟩
        have B4 := below_step B3 d4.below
        have i4 := i3.below d4.below
        have j4 := j3.below d4.below
        clear B3 k3 j3 i3 d4
        have HF := Lib.hid HC.out.2.2
        have HC2 := Lib.hid HC.out.1
        have hHl : (outM (transM F) true).length ≤ 1048576 := by omega
        have hH0 : 0 < (outM (transM F) true).length := HC.out.2.1
        clear HC
        generalize outM (transM F) true = H at *
        go_wp2
        go_loopw [10] (fun i wr => ∃ k : Nat, k ≤ 4 ∧ i = .int .i64 k ∧ Below w4.heap.size w4 wr) (fun i _ => 4 - (intOf i).toNat)
        case atStart => exact ⟨0, by omega, rfl, Below.refl _ _⟩
        case round =>
          obtain ⟨k, hk, rfl, hbel⟩ := hrel
          by_cases hlt : k < 4
          · have hkn : ml + k * 23 ≤ 2000000 := by omega
            have hkl : IntKind.i64.wrap ((k : Int) * 23) = (k : Int) * 23 := by rw [IntKind.wrap_i64]; omega
            have hkl2 : IntKind.i64.wrap ((ml : Int) + (k : Int) * 23) = ((ml + k * 23 : Nat) : Int) := by rw [IntKind.wrap_i64]; omega
            have hkw : (ml : Int) + (k : Int) * 23 = ((ml + k * 23 : Nat) : Int) := by omega
            obtain ⟨nn, hnn⟩ : ∃ nn, nn = ml + k * 23 := ⟨_, rfl⟩
            rw [← hnn] at hkw hkn hkl2
            have hn64 : nmk nn < 64 := nmk_lt nn
            have hmll := mem_len (nmk nn)
            have HQ := Lib.hid (HF.out _ hn64)
            obtain ⟨t, ht⟩ : ∃ t, t = mem (nmk nn) := ⟨_, rfl⟩
            have HVT := Lib.hid (show vld t = true by rw [ht]; exact vld_mem hn64)
            have htl : t.length ≤ 1048576 := by rw [ht]; omega
            have HS := Lib.hid (setB_any nn)
            rw [← ht] at HS HQ
            clear ht hnn hmll hn64
            go_wp2_with fail
            refine (HS.out _ hkn).mono ?_
            rintro e w8 ⟨A8, c8, rfl, o8, b8⟩
            have u8 := (IL.of_own o8).1
            have hb8 := below_step hbel b8
            clear hbel b8 o8 HS hkw hkl hkl2 hkn
            have i8 := i4.below hb8
            have j8 := j4.below hb8
            go_wp2
            go_loopw [12, 13] (fun hv i wr => ∃ q : Nat, q ≤ F.length ∧ i = .int .i64 q ∧ hv = .bool (hitsL (F.take q) t) ∧ Below w8.heap.size w8 wr) (fun _ i _ => F.length - (intOf i).toNat)
            case atStart => exact ⟨0, Nat.zero_le _, rfl, by simp [hitsL], Below.refl _ _⟩
            case round =>
              obtain ⟨q, hq, rfl, rfl, hbq⟩ := hrel
              by_cases hqlt : q < F.length
              · have i9 := i8.below hbq
                have u9 := u8.below hbq
                obtain ⟨b1, off1, p, P1, d1', e1, hx1, hc1, hil1⟩ := i9.at_ hqlt
                subst e1
                have hpl := hS.at_ hx1
                have hki : (0 : Int) ≤ (q : Int) := by omega
                have hki2 : (q : Int) < (F.length : Int) := by omega
                have HT := Lib.hid (hitsL_take (s := t) hx1)
                have HB := Lib.hid (both_inter (HV.out p (List.mem_of_getElem? hx1)) HVT.out)
                clear hx1
                generalize hgh : hitsL (F.take q) t = hb at *
                cases hb
                · go_wp2
                  go_roundw
                  case rel => exact ⟨q + 1, by omega, by go_num, by rw [HT.out]; rfl, hbq⟩
                  case measure => simp [intOf]; omega
                · go_wp2_with fail
                  refine (implInter_any _ _ _ _ _ _ _ hil1 u9 (by omega) htl).mono ?_
                  rintro e w10 ⟨A10, c10, rfl, o10, b10⟩
                  have hb10 := below_step hbq b10
                  clear hbq b10 hil1 hc1 u9 i9 o10
                  rw [HB.out]
                  have HT2 := Lib.hid (show hitsL (F.take (q + 1)) t = !((inter p t).length == 0) by rw [HT.out]; rfl)
                  generalize (inter p t).length = z at *
                  clear HT HB hgh
                  cases z with
                  | zero =>
                    go_wp2
                    go_roundw
                    case rel => exact ⟨q + 1, by omega, by go_num, by rw [HT2.out]; rfl, hb10⟩
                    case measure => simp [intOf]; omega
                  | succ z =>
                    have hz : decide ((0 : Int) < ((z + 1 : Nat) : Int)) = true := by rw [decide_eq_true_eq]; omega
                    have hz2 : decide (0 < z + 1) = true := by rw [decide_eq_true_eq]; omega
                    go_wp2
                    go_roundw
                    case rel => exact ⟨q + 1, by omega, by go_num, by rw [HT2.out]; rfl, hb10⟩
                    case measure => simp [intOf]; omega
              · have hqe : q = F.length := by omega
                have HE := Lib.hid (show hitsL (F.take q) t = hitsL F t by rw [hqe, List.take_length])
                have hnl : ¬ q < F.length := hqlt
                rw [HE.out]
                have j9 := j8.below hbq
                have u9 := u8.below hbq
                go_wp2_with fail
                refine (implHasQ_any _ _ _ _ _ _ _ j9 u9 hHl sO htl).mono ?_
                rw [HQ.out]
                rintro e w9 ⟨rfl, b9⟩
                have hb9 := below_step hb8 (below_step hbq b9)
                clear hbq b9 u9 j9 HE hb8
                generalize hitsL F t = hh at *
                cases hh
                · go_wp2
                  go_roundw
                  case rel => exact ⟨k + 1, by omega, by go_num, hb9⟩
                  case measure => simp [intOf]; omega
                · go_wp2
                  go_roundw
                  case rel => exact ⟨k + 1, by omega, by go_num, hb9⟩
                  case measure => simp [intOf]; omega
          · go_wp2_with fail
            refine (implFam_any _ _ _ _ (j4.below hbel) hHl sO).mono ?_
            rw [HC2.out]
            rintro e w8 ⟨rfl, b8⟩
            have B8 := below_step B4 (below_step hbel b8)
            clear hbel b8
            go_wp2
            go_ret
            exact ⟨by simp <;> omega, B8⟩
    · go_enter Try.func6, Try.ntmps6
      go_wp2_with fail
      go_ret
      exact ⟨rfl, Below.refl _ _⟩
  · go_enter Try.func6, Try.ntmps6
    go_wp2_with fail
    go_ret
    exact ⟨rfl, Below.refl _ _⟩
end Go.Proofs.Ytmpcnefmlnkkjaa
