/- The walks of the laws that tie measures of a quorum system to its transversals. -/
import Derived.Test.YtoomaiclbblcdaaDrawMg
import Derived.Test.YtoomaiclbblcdaaMetTg
import Derived.Test.YtoomaiclbblcdaaMetIg
import Derived.Test.YtoomaiclbblcdaaGb
namespace Go.Proofs.Ytoomaiclbblcdaa
open Go.RowKit

theorem res_rng (F : List (List Int)) (n : Int) : -1 ≤ resR F n ∧ resR F n ≤ 5 := by
  unfold resR
  split
  · rename_i h
    obtain ⟨_, h1, h6, _⟩ := fitB_parts.1 h
    have := wst_le (msks F) n.toNat 64
    omega
  · omega
theorem sml_rng (F : List (List Int)) : -1 ≤ smlR F ∧ smlR F ≤ 6 := by
  unfold smlR
  split
  · rename_i h
    have h1 := sml_le F F.length
    have h2 : (F.headD []).length ≤ 6 := by
      cases F with
      | nil => simp
      | cons a F => exact vld_len (famOk_allV (trans_parts h).1 a (by simp))
    omega
  · omega
theorem av_rng (F : List (List Int)) (n : Int) : -1 ≤ avR F n ∧ avR F n ≤ 64 := by
  unfold avR
  split
  · have := cntQ_le (msks F) (fst n.toNat) 64
    omega
  · omega
theorem res_no {F : List (List Int)} (h : transOk F = false) (n : Int) : resR F n = -1 := by
  have : fitB F n = false := by simp [fitB, h]
  simp [resR, this]
theorem res_tr {F : List (List Int)} (h : transOk F = true) : resR F 6 = smlR (outM (transM F) true) - 1 := by
  rw [resR, if_pos (fit_six h), smlR, if_pos (trans_ok2 h), ← res_trans h]
  rfl
theorem av_pos {F : List (List Int)} {n : Int} (h : 0 ≤ avR F n) : transOk F = true := by
  cases hf : fitB F n with
  | true => exact (fitB_parts.1 hf).1
  | false => simp [avR, hf] at h
theorem av_tr {F : List (List Int)} (h : transOk F = true) : avR F 6 + avR (outM (transM F) true) 6 = 64 := by
  have := av_dual h
  rw [avR, if_pos (fit_six h), avR, if_pos (fit_six (trans_ok2 h))]
  show ((cntQ (msks F) 63 64 : Nat) : Int) + ((cntQ (msks (outM (transM F) true)) 63 64 : Nat) : Int) = 64
  omega

set_option maxRecDepth 100000 in
set_option maxHeartbeats 1600000 in
theorem walkResT (A : Option Addr) (c : Nat) (l : List Int) (w : World) (ha : BL w A l) (hc : l.length ≤ c) (hm : l.length ≤ maxLen) (hmc : c ≤ maxLen) :
    Calls Try.prog 4 #[.slice A l.length c] w fun e w' => e = .returned (.bool true) ∧ Below w.heap.size w w' := by
  have hm1 := hm
  unfold maxLen at hm1
  by_cases hl : l.length ≤ 1048576
  · go_enter Try.func4, Try.ntmps4
    go_wp2_with fail
    refine (drawRes_any _ _ _ _ ha hc hm hmc).mono ?_
    rintro e w1 ⟨F, n, A1, c1, hF, hS, hn0, hn7, rfl, i1, B1⟩
    clear ha hm hc hmc
    have hFl : F.length ≤ 1048576 := by omega
    have hFs : Short F 1048576 := fun x hx => Nat.le_trans (hS x hx) (by omega)
    go_wp2_with fail
    refine (implRes_any _ _ _ _ _ i1 hFl hFs).mono ?_
    rintro e w2 ⟨rfl, b2⟩
    have i2 := i1.below b2
    have B2 := below_step B1 b2
    clear i1 B1 b2
    go_wp2_with fail
    refine (specRes_any _ _ _ _ _ i2 hFl hFs).mono ?_
    rintro e w3 ⟨rfl, b3⟩
    have i3 := i2.below b3
    have B3 := below_step B2 b3
    clear i2 B2 b3
    have hrr := res_rng F n
    by_cases h6 : n = 6
    · subst h6
      have hr1 : ¬ (resR F 6 < -1) := by omega
      cases hT : transOk F
      · have HT := Lib.hid hT
        have hb : (resR F 6 == -1) = true := by rw [res_no hT]; rfl
        clear hT
        generalize resR F 6 = r at *
        go_wp2_with fail
        refine (implTrans_any _ _ _ _ i3 hFl hFs).mono ?_
        rintro e w4 ⟨A4, c4, rfl, OG, b4⟩
        have B4 := below_step B3 b4
        rw [HT.out]
        clear OG b4 B3 i3
        generalize outM (transM F) false = T at *
        go_wp2
        go_ret
        exact ⟨rfl, B4⟩
      · have HT := Lib.hid hT
        have hR := res_tr hT
        have hO := outM_len (transM F) true
        have sO := outM_short (transM F) true
        clear hT
        have hsr := sml_rng (outM (transM F) true)
        generalize resR F 6 = r at *
        go_wp2_with fail
        refine (implTrans_any _ _ _ _ i3 hFl hFs).mono ?_
        rintro e w4 ⟨A4, c4, rfl, OG, b4⟩
        rw [HT.out] at OG ⊢
        have B4 := below_step B3 b4
        have i4 := OG.iss
        clear OG b4 B3 i3 HT
        generalize outM (transM F) true = T at *
        go_wp2_with fail
        refine (implSmall_any _ _ _ _ i4 (by omega) sO).mono ?_
        rintro e w5 ⟨rfl, b5⟩
        have B5 := below_step B4 b5
        clear i4 b5 B4
        generalize smlR T = s at *
        have hb : (r == s - 1) = true := by rw [hR]; simp
        have HR := Lib.hid hR
        clear hR
        go_wp2
        go_ret
        exact ⟨rfl, B5⟩
    · go_wp2_with fail
      refine (specRes_any _ _ _ _ _ i3 hFl hFs).mono ?_
      rintro e w4 ⟨rfl, b4⟩
      have B4 := below_step B3 b4
      clear i3 B3 b4
      go_wp2
      go_ret
      exact ⟨rfl, B4⟩
  · have hl2 : (1048576 : Int) < (l.length : Int) := by omega
    go_enter Try.func4, Try.ntmps4
    go_wp2
    go_ret
    exact ⟨rfl, Below.refl _ _⟩

set_option maxRecDepth 100000 in
set_option maxHeartbeats 1600000 in
theorem walkAvD (A : Option Addr) (c : Nat) (l : List Int) (w : World) (ha : BL w A l) (hc : l.length ≤ c) (hm : l.length ≤ maxLen) (hmc : c ≤ maxLen) :
    Calls Try.prog 6 #[.slice A l.length c] w fun e w' => e = .returned (.bool true) ∧ Below w.heap.size w w' := by
  have hm1 := hm
  unfold maxLen at hm1
  by_cases hl : l.length ≤ 1048576
  · go_enter Try.func6, Try.ntmps6
    go_wp2_with fail
    refine (drawAv_any _ _ _ _ ha hc hm hmc).mono ?_
    rintro e w1 ⟨F, n, A1, c1, hF, hS, hn0, hn7, rfl, i1, B1⟩
    clear ha hm hc hmc
    have hFl : F.length ≤ 1048576 := by omega
    have hFs : Short F 1048576 := fun x hx => Nat.le_trans (hS x hx) (by omega)
    go_wp2_with fail
    refine (implAv_any _ _ _ _ _ i1 hFl hFs).mono ?_
    rintro e w2 ⟨rfl, b2⟩
    have i2 := i1.below b2
    have B2 := below_step B1 b2
    clear i1 B1 b2
    go_wp2_with fail
    refine (specAv_any _ _ _ _ _ i2 hFl hFs).mono ?_
    rintro e w3 ⟨rfl, b3⟩
    have i3 := i2.below b3
    have B3 := below_step B2 b3
    clear i2 B2 b3
    by_cases h0 : avR F n < 0
    · go_wp2_with fail
      refine (specAv_any _ _ _ _ _ i3 hFl hFs).mono ?_
      rintro e w4 ⟨rfl, b4⟩
      have B4 := below_step B3 b4
      clear i3 B3 b4
      go_wp2
      go_ret
      exact ⟨rfl, B4⟩
    · have hT := av_pos (F := F) (n := n) (by omega)
      have HT := Lib.hid hT
      have hR := Lib.hid (av_tr hT)
      have hO := outM_len (transM F) true
      have sO := outM_short (transM F) true
      clear hT
      generalize avR F n = a at *
      go_wp2_with fail
      refine (implTrans_any _ _ _ _ i3 hFl hFs).mono ?_
      rintro e w4 ⟨A4, c4, rfl, OG, b4⟩
      rw [HT.out] at OG ⊢
      have B4 := below_step B3 b4
      have i4 := OG.iss
      have j4 := i3.below b4
      clear OG b4 B3 i3 HT
      generalize outM (transM F) true = T at *
      go_wp2_with fail
      refine (implAv_any _ _ _ _ _ j4 hFl hFs).mono ?_
      rintro e w5 ⟨rfl, b5⟩
      have B5 := below_step B4 b5
      have i5 := i4.below b5
      clear i4 j4 b5 B4
      go_wp2_with fail
      refine (implAv_any _ _ _ _ _ i5 (by omega) sO).mono ?_
      rintro e w6 ⟨rfl, b6⟩
      have B6 := below_step B5 b6
      clear i5 b6 B5
      have r1 := av_rng F 6
      have r2 := av_rng T 6
      generalize avR F 6 = p at *
      generalize avR T 6 = q at *
      have hb : (p + q == 64) = true := by rw [hR.out]; rfl
      go_wp2
      go_ret
      exact ⟨rfl, B6⟩
  · have hl2 : (1048576 : Int) < (l.length : Int) := by omega
    go_enter Try.func6, Try.ntmps6
    go_wp2
    go_ret
    exact ⟨rfl, Below.refl _ _⟩

theorem sgl_len {T : List (List Int)} (hT : allV T) {k : Nat} (hk : k ≤ T.length) : (sgl T k).length ≤ 6 := vld_len (sgl_has hT 0 k hk).1

set_option maxRecDepth 100000 in
set_option maxHeartbeats 1600000 in
theorem walkCrT (A : Option Addr) (c : Nat) (l : List Int) (w : World) (ha : BL w A l) (hc : l.length ≤ c) (hm : l.length ≤ maxLen) (hmc : c ≤ maxLen) :
    Calls Try.prog 9 #[.slice A l.length c] w fun e w' => e = .returned (.bool true) ∧ Below w.heap.size w w' := by
  have hm1 := hm
  unfold maxLen at hm1
  by_cases hl : l.length ≤ 1048576
  · go_enter Try.func9, Try.ntmps9
    go_wp2_with fail
    refine (drawCrt_any _ _ _ _ ha hc hm hmc).mono ?_
    rintro e w1 ⟨F, A1, c1, hF, hS, rfl, i1, B1⟩
    clear ha hm hc hmc
    have hFl : F.length ≤ 1048576 := by omega
    have hFs : Short F 1048576 := fun x hx => Nat.le_trans (hS x hx) (by omega)
    have hCl := crtR_len F
    go_wp2_with fail
    refine (implCrit_any _ _ _ _ i1 hFl hFs).mono ?_
    rintro e w2 ⟨A2, c2, rfl, o2, b2⟩
    have i2 := i1.below b2
    have s2 := (IL.of_own o2).1
    have B2 := below_step B1 b2
    clear i1 B1 b2 o2
    go_wp2_with fail
    refine (specCrit_any _ _ _ _ i2 hFl hFs).mono ?_
    rintro e w3 ⟨A3, c3, rfl, o3, b3⟩
    have i3 := i2.below b3
    have s3 := s2.below b3
    have t3 := (IL.of_own o3).1
    have B3 := below_step B2 b3
    clear i2 B2 b3 o3 s2
    go_wp2_with fail
    refine (sameInts_yes _ _ _ _ _ _ s3 t3 (by omega)).mono ?_
    rintro e w4 ⟨rfl, b4⟩
    have i4 := i3.below b4
    have s4 := s3.below b4
    have B4 := below_step B3 b4
    clear i3 B3 b4 s3 t3
    go_wp2_with fail
    refine (specFam_any _ _ _ _ i4 hFl hFs).mono ?_
    rintro e w5 ⟨he, d5⟩
    have i5 := i4.below d5.below
    have s5 := s4.below d5.below
    have B5 := below_step B4 d5.below
    clear i4 B4 s4 d5
    cases hf : famOk F
    · rw [hf] at he
      subst he
      clear hf
      go_wp2_with fail
      refine (specCrit_any _ _ _ _ i5 hFl hFs).mono ?_
      rintro e w6 ⟨A6, c6, rfl, o6, b6⟩
      have s6 := s5.below b6
      have t6 := (IL.of_own o6).1
      have B6 := below_step B5 b6
      clear i5 B5 b6 o6 s5
      go_wp2_with fail
      refine (sameInts_yes _ _ _ _ _ _ s6 t6 (by omega)).mono ?_
      rintro e w7 ⟨rfl, b7⟩
      have B7 := below_step B6 b7
      clear s6 t6 B6 b7
      go_wp2
      go_ret
      exact ⟨rfl, B7⟩
    · rw [hf] at he
      subst he
      by_cases h0 : F.length = 0
      · have h0b : ((F.length : Int) == 0) = true := by simp [h0]
        clear hf h0
        go_wp2_with fail
        refine (specCrit_any _ _ _ _ i5 hFl hFs).mono ?_
        rintro e w6 ⟨A6, c6, rfl, o6, b6⟩
        have s6 := s5.below b6
        have t6 := (IL.of_own o6).1
        have B6 := below_step B5 b6
        clear i5 B5 b6 o6 s5
        go_wp2_with fail
        refine (sameInts_yes _ _ _ _ _ _ s6 t6 (by omega)).mono ?_
        rintro e w7 ⟨rfl, b7⟩
        have B7 := below_step B6 b7
        clear s6 t6 B6 b7
        go_wp2
        go_ret
        exact ⟨rfl, B7⟩
      · have h0b : ((F.length : Int) == 0) = false := beq_eq_false_iff_ne.2 (by omega)
        have hT : transOk F = true := by simp [transOk, hf]; omega
        have HT := Lib.hid hT
        have HC := Lib.hid (crit_trans hT)
        have hO := outM_len (transM F) true
        have sO := outM_short (transM F) true
        have hV := Lib.hid (famOk_allV (trans_parts (trans_ok2 hT)).1)
        clear hf h0 hT
        go_wp2_with fail
        refine (implTrans_any _ _ _ _ i5 hFl hFs).mono ?_
        rintro e w6 ⟨A6, c6, rfl, OG, b6⟩
        rw [HT.out] at OG ⊢
        have B6 := below_step B5 b6
        have i6 := OG.iss
        have s6 := s5.below b6
        clear OG b6 B5 i5 s5 HT
        generalize crtR F = C at *
        generalize outM (transM F) true = T at *
        have hbA : Below w6.heap.size w6 (w6.alloc (.cells #[] 3)) := (Below.refl _ w6).alloc (Nat.le_refl _) _
        go_wp2
        go_loopw [7, 8] (fun v i wr => ∃ (k : Nat) (x : List Int) (A : Option Addr) (c : Nat), k ≤ T.length ∧ i = .int .i64 k ∧ v = .slice A x.length c ∧ IL wr A x ∧ Hid (x = sgl T k) ∧ Below w6.heap.size w6 wr) (fun _ i _ => T.length - (intOf i).toNat)
        case atStart => exact ⟨0, [], _, _, Nat.zero_le _, rfl, rfl, .inl rfl, Lib.hid rfl, hbA⟩
        case round =>
          obtain ⟨k, x, A7, c7, hk, rfl, rfl, x7, HX, hbel⟩ := hrel
          have hx6 : x.length ≤ 6 := by rw [HX.out]; exact sgl_len hV.out hk
          by_cases hlt : k < T.length
          · obtain ⟨b, off, t, B', d', rfl, hx, hcc, hil⟩ := (i6.below hbel).at_ hlt
            have htl := sO.at_ hx
            have hki : (0 : Int) ≤ (k : Int) := by omega
            have hki2 : (k : Int) < (T.length : Int) := by omega
            by_cases h1 : t.length = 1
            · have HX2 := Lib.hid (show both union x t = sgl T (k + 1) by rw [sgl_yes hx h1, HX.out])
              have h1b : ((t.length : Int) == 1) = true := by simp [h1]
              clear hx HX h1
              go_wp2_with fail
              refine (implUnion_any _ _ _ _ _ _ _ x7 hil (by omega) htl).mono ?_
              rintro e w8 ⟨A8, c8, rfl, o8, b8⟩
              have x8 := (IL.of_own o8).1
              have B8 := below_step hbel b8
              clear o8 b8 hbel x7 hil
              generalize both union x t = z at *
              go_wp2
              go_roundw
              case rel => exact ⟨k + 1, z, A8, c8, by omega, by go_num, rfl, x8, HX2, B8⟩
              case measure => simp [intOf]; omega
            · have HX2 := Lib.hid (show x = sgl T (k + 1) by rw [sgl_no hx h1, HX.out])
              have h1b : ((t.length : Int) == 1) = false := beq_eq_false_iff_ne.2 (by omega)
              clear hx HX h1
              go_wp2
              go_roundw
              case rel => exact ⟨k + 1, x, A7, c7, by omega, by go_num, rfl, x7, HX2, hbel⟩
              case measure => simp [intOf]; omega
          · have hkl : k = T.length := by omega
            subst hkl
            have hxC : x = C := by rw [HX.out, HC.out]
            subst hxC
            have s7 := s6.below hbel
            have B7 := below_step B6 hbel
            clear HX HC
            go_wp2_with fail
            refine (sameInts_yes _ _ _ _ _ _ x7 s7 (by omega)).mono ?_
            rintro e w8 ⟨rfl, b8⟩
            have B8 := below_step B7 b8
            go_wp2
            go_ret
            exact ⟨rfl, B8⟩
  · have hl2 : (1048576 : Int) < (l.length : Int) := by omega
    go_enter Try.func9, Try.ntmps9
    go_wp2
    go_ret
    exact ⟨rfl, Below.refl _ _⟩
end Go.Proofs.Ytoomaiclbblcdaa
