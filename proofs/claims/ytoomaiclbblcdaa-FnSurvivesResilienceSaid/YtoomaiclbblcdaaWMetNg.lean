/- The walks of the laws on survival. -/
import Derived.Test.YtoomaiclbblcdaaWMetMg
namespace Go.Proofs.Ytoomaiclbblcdaa
open Go.RowKit

theorem srv_hasQ {F : List (List Int)} {s : List Int} (hf : famOk F = true) (hs : vld s = true) : hasQR F (both minus (mem 63) s) = srvR F s := by
  have h6 := andNot_lt (a := 63) (b := msk s) (by omega)
  rw [minus_all hs, hasQR, hf, vld_mem h6, hasL_m hf h6, srvR, hf, hs]
theorem srv_inter {F : List (List Int)} {s t : List Int} (hs : vld s = true) (ht : vld t = true) (h : srvR F s = true) : srvR F (both inter s t) = true := by
  rw [both_t hs ht]
  have e := inter_msk hs ht
  have h6 : msk s &&& msk t < 64 := Nat.lt_of_le_of_lt Nat.and_le_left (msk_lt hs)
  have hv : vld (inter s t) = true := by rw [← e]; exact vld_mem h6
  refine surv_mono hs hv ?_ h
  rw [← e, msk_mem h6]
  have H : ∀ a : Fin 64, ∀ b : Fin 64, sub (a.val &&& b.val) a.val = true := by decide +kernel
  exact H ⟨_, msk_lt hs⟩ ⟨_, msk_lt ht⟩
theorem srv_tol {F : List (List Int)} {s : List Int} (hs : vld s = true) (hl : (s.length : Int) ≤ resR F 6) : srvR F s = true := by
  cases hT : transOk F with
  | true => exact surv_res hT hs hl
  | false => rw [res_no hT] at hl; omega

set_option maxRecDepth 100000 in
set_option maxHeartbeats 3200000 in
theorem walkSrvL (A B : Option Addr) (c d : Nat) (l m : List Int) (w : World) (ha : BL w A l) (hc : l.length ≤ c) (hmc : c ≤ maxLen) (hd : m.length ≤ d) (hmd : d ≤ maxLen) :
    Calls Try.prog 10 #[.slice A l.length c, .slice B m.length d] w fun e w' => e = .returned (.bool true) ∧ Below w.heap.size w w' := by
  have hm := Nat.le_trans hc hmc
  have hmm := Nat.le_trans hd hmd
  have hm1 := hm
  have hm2 := hmm
  unfold maxLen at hm1 hm2
  by_cases hl : l.length ≤ 1048576
  · by_cases hl2 : m.length ≤ 1048576
    · obtain ⟨ml, hml⟩ : ∃ ml, ml = m.length := ⟨_, rfl⟩
      rw [← hml] at hl2 hm2 ⊢
      clear hml hmm hd hmd
      go_enter Try.func10, Try.ntmps10
      go_wp2_with fail
      refine (drawSrv_any _ _ _ _ ha hc hm hmc).mono ?_
      rintro e w1 ⟨F, s, A1, C1, c1, d1, hF, hS, hs7, rfl, i1, s1, B1⟩
      clear ha hm hc hmc
      have hFl : F.length ≤ 1048576 := by omega
      have hFs : Short F 1048576 := fun x hx => Nat.le_trans (hS x hx) (by omega)
      have hsl : s.length ≤ 1048576 := by omega
      go_wp2_with fail
      refine (implSurv_any _ _ _ _ _ _ _ i1 s1 hFl hFs hsl).mono ?_
      rintro e w2 ⟨rfl, b2⟩
      have i2 := i1.below b2
      have s2 := s1.below b2
      have B2 := below_step B1 b2
      clear i1 s1 B1 b2
      go_wp2_with fail
      refine (specSurv_any _ _ _ _ _ _ _ i2 s2 hFl hFs hsl).mono ?_
      rintro e w3 ⟨rfl, b3⟩
      have i3 := i2.below b3
      have s3 := s2.below b3
      have B3 := below_step B2 b3
      clear i2 s2 B2 b3
      go_wp2_with fail
      refine (specFam_any _ _ _ _ i3 hFl hFs).mono ?_
      rintro e w4 ⟨he, d4⟩
      have i4 := i3.below d4.below
      have s4 := s3.below d4.below
      have B4 := below_step B3 d4.below
      clear i3 s3 B3 d4
      cases hf : famOk F
      · rw [hf] at he
        subst he
        clear hf
        go_wp2_with fail
        refine (specSurv_any _ _ _ _ _ _ _ i4 s4 hFl hFs hsl).mono ?_
        rintro e w5 ⟨rfl, b5⟩
        have B5 := below_step B4 b5
        clear i4 s4 B4 b5
        go_wp2
        go_ret
        exact ⟨rfl, B5⟩
      · rw [hf] at he
        subst he
        have HF := Lib.hid hf
        clear hf
        go_wp2_with fail
        refine (specValid_drew _ _ _ _ s4 hsl).mono ?_
        rintro e w5 ⟨he, d5⟩
        have d5' : Drew w4 w5 := d5
        have i5 := i4.below d5'.below
        have s5 := s4.below d5'.below
        have B5 := below_step B4 d5'.below
        clear i4 s4 B4 d5 d5'
        cases hv : vld s
        · rw [hv] at he
          subst he
          clear hv
          go_wp2_with fail
          refine (specSurv_any _ _ _ _ _ _ _ i5 s5 hFl hFs hsl).mono ?_
          rintro e w6 ⟨rfl, b6⟩
          have B6 := below_step B5 b6
          clear i5 s5 B5 b6
          go_wp2
          go_ret
          exact ⟨rfl, B6⟩
        · rw [hv] at he
          subst he
          have H1 := Lib.hid (srv_hasQ HF.out hv)
          have hv6 := vld_len hv
          have hn64 : nmk ml < 64 := nmk_lt ml
          have H2 := Lib.hid (fun h => srv_inter (F := F) hv (vld_mem hn64) h)
          have hml6 := mem_len (nmk ml)
          have hm63 := mem_len 63
          have hbl : (both minus (mem 63) s).length ≤ 1048576 := by rw [minus_all hv]; have := mem_len (andNot 63 (msk s)); omega
          have hil : (both inter s (mem (nmk ml))).length ≤ 1048576 := by rw [both_t hv (vld_mem hn64)]; have := inter_len s (mem (nmk ml)); omega
          have HO := Lib.hid (fun W => setO_any ml W hl2)
          clear hv hn64
          go_wp2_with fail
          refine (allM_any _).mono ?_
          rintro e w6 ⟨A6, c6, rfl, o6, b6⟩
          have i6 := i5.below b6
          have s6 := s5.below b6
          have x6 := (IL.of_own o6).1
          have B6 := below_step B5 b6
          clear i5 s5 B5 b6 o6
          go_wp2_with fail
          refine (implMinus_any _ _ _ _ _ _ _ x6 s6 (by omega) hsl).mono ?_
          rintro e w7 ⟨A7, c7, rfl, o7, b7⟩
          have i7 := i6.below b7
          have s7 := s6.below b7
          have x7 := (IL.of_own o7).1
          have B7 := below_step B6 b7
          clear i6 s6 x6 B6 b7 o7
          go_wp2_with fail
          refine (implHasQ_any _ _ _ _ _ _ _ i7 x7 hFl hFs hbl).mono ?_
          rintro e w8 ⟨he, b8⟩
          rw [H1.out] at he
          subst he
          have i8 := i7.below b8
          have s8 := s7.below b8
          have B8 := below_step B7 b8
          clear i7 s7 x7 B7 b8 H1
          generalize nmk ml = q at *
          cases hk : srvR F s
          · clear hk H2
            go_wp2
            go_ret
            exact ⟨rfl, B8⟩
          · have H3 := Lib.hid (H2.out hk)
            clear hk H2
            go_wp2_with fail
            refine (HO.out _).mono ?_
            rintro e w9 ⟨A9, c9, rfl, o9, b9⟩
            have i9 := i8.below b9
            have s9 := s8.below b9
            have x9 := (IL.of_own o9).1
            have B9 := below_step B8 b9
            clear i8 s8 B8 b9 o9
            go_wp2_with fail
            refine (implInter_any _ _ _ _ _ _ _ s9 x9 hsl (by omega)).mono ?_
            rintro e w10 ⟨A10, c10, rfl, o10, b10⟩
            have i10 := i9.below b10
            have x10 := (IL.of_own o10).1
            have B10 := below_step B9 b10
            clear i9 s9 x9 B9 b10 o10
            go_wp2_with fail
            refine (implSurv_any _ _ _ _ _ _ _ i10 x10 hFl hFs hil).mono ?_
            rintro e w11 ⟨he, b11⟩
            rw [H3.out] at he
            subst he
            have B11 := below_step B10 b11
            clear i10 x10 B10 b11
            go_wp2
            go_ret
            exact ⟨rfl, B11⟩
    · have hl3 : (1048576 : Int) < (m.length : Int) := by omega
      go_enter Try.func10, Try.ntmps10
      go_wp2
      go_ret
      exact ⟨rfl, Below.refl _ _⟩
  · have hl3 : (1048576 : Int) < (l.length : Int) := by omega
    go_enter Try.func10, Try.ntmps10
    go_wp2
    go_ret
    exact ⟨rfl, Below.refl _ _⟩

set_option maxRecDepth 100000 in
set_option maxHeartbeats 3200000 in
theorem walkSrvR (A B : Option Addr) (c d : Nat) (l m : List Int) (w : World) (ha : BL w A l) (hc : l.length ≤ c) (hmc : c ≤ maxLen) (hd : m.length ≤ d) (hmd : d ≤ maxLen) :
    Calls Try.prog 11 #[.slice A l.length c, .slice B m.length d] w fun e w' => e = .returned (.bool true) ∧ Below w.heap.size w w' := by
  have hm := Nat.le_trans hc hmc
  have hmm := Nat.le_trans hd hmd
  have hm1 := hm
  have hm2 := hmm
  unfold maxLen at hm1 hm2
  by_cases hl : l.length ≤ 1048576
  · by_cases hl2 : m.length ≤ 1048576
    · obtain ⟨ml, hml⟩ : ∃ ml, ml = m.length := ⟨_, rfl⟩
      rw [← hml] at hl2 hm2 ⊢
      clear hml hmm hd hmd
      go_enter Try.func11, Try.ntmps11
      go_wp2_with fail
      refine (drawSrv_any _ _ _ _ ha hc hm hmc).mono ?_
      rintro e w1 ⟨F, s, A1, C1, c1, d1, hF, hS, hs7, rfl, i1, s1, B1⟩
      clear ha hm hc hmc
      have hFl : F.length ≤ 1048576 := by omega
      have hFs : Short F 1048576 := fun x hx => Nat.le_trans (hS x hx) (by omega)
      have hsl : s.length ≤ 1048576 := by omega
      go_wp2_with fail
      refine (implSurv_any _ _ _ _ _ _ _ i1 s1 hFl hFs hsl).mono ?_
      rintro e w2 ⟨rfl, b2⟩
      have i2 := i1.below b2
      have s2 := s1.below b2
      have B2 := below_step B1 b2
      clear i1 s1 B1 b2
      go_wp2_with fail
      refine (specSurv_any _ _ _ _ _ _ _ i2 s2 hFl hFs hsl).mono ?_
      rintro e w3 ⟨rfl, b3⟩
      have i3 := i2.below b3
      have s3 := s2.below b3
      have B3 := below_step B2 b3
      clear i2 s2 B2 b3
      go_wp2_with fail
      refine (specFam_any _ _ _ _ i3 hFl hFs).mono ?_
      rintro e w4 ⟨he, d4⟩
      have i4 := i3.below d4.below
      have s4 := s3.below d4.below
      have B4 := below_step B3 d4.below
      clear i3 s3 B3 d4
      cases hf : famOk F
      · rw [hf] at he
        subst he
        clear hf
        go_wp2_with fail
        refine (specSurv_any _ _ _ _ _ _ _ i4 s4 hFl hFs hsl).mono ?_
        rintro e w5 ⟨rfl, b5⟩
        have B5 := below_step B4 b5
        clear i4 s4 B4 b5
        go_wp2
        go_ret
        exact ⟨rfl, B5⟩
      · rw [hf] at he
        subst he
        have HF := Lib.hid hf
        clear hf
        go_wp2_with fail
        refine (specValid_drew _ _ _ _ s4 hsl).mono ?_
        rintro e w5 ⟨he, d5⟩
        have d5' : Drew w4 w5 := d5
        have i5 := i4.below d5'.below
        have s5 := s4.below d5'.below
        have B5 := below_step B4 d5'.below
        clear i4 s4 B4 d5 d5'
        cases hv : vld s
        · rw [hv] at he
          subst he
          clear hv
          go_wp2_with fail
          refine (specSurv_any _ _ _ _ _ _ _ i5 s5 hFl hFs hsl).mono ?_
          rintro e w6 ⟨rfl, b6⟩
          have B6 := below_step B5 b6
          clear i5 s5 B5 b6
          go_wp2
          go_ret
          exact ⟨rfl, B6⟩
        · rw [hv] at he
          subst he
          have hn64 : nmk ml < 64 := nmk_lt ml
          have hml6 := mem_len (nmk ml)
          have HO := Lib.hid (fun W => setO_any ml W hl2)
          have H1 := Lib.hid (fun h => srv_tol (F := F) hv h)
          have H2 := Lib.hid (fun h => srv_tol (F := F) (vld_mem hn64) h)
          have hrr := res_rng F 6
          clear hv hn64
          generalize nmk ml = q at *
          go_wp2_with fail
          refine (HO.out _).mono ?_
          rintro e w6 ⟨A6, c6, rfl, o6, b6⟩
          have i6 := i5.below b6
          have x6 := (IL.of_own o6).1
          have B6 := below_step B5 b6
          clear i5 s5 B5 b6 o6 HO
          go_wp2_with fail
          refine (implRes_any _ _ _ _ _ i6 hFl hFs).mono ?_
          rintro e w7 ⟨rfl, b7⟩
          have i7 := i6.below b7
          have x7 := x6.below b7
          have B7 := below_step B6 b7
          clear i6 x6 B6 b7
          have HR := Lib.hid (fun (W : World) (hi : ISS W A1 F) => implRes_any A1 c1 F 6 W hi hFl hFs)
          have HS := Lib.hid (fun (W : World) (hi : ISS W A1 F) (hx : IL W A6 (mem q)) => implSurv_any A1 A6 c1 c6 F (mem q) W hi hx hFl hFs (by omega))
          generalize hr : resR F 6 = r at *
          have HRR := Lib.hid hr
          clear hr
          by_cases hg : r < (s.length : Int)
          · clear H1
            go_wp2_with fail
            refine (HR.out _ i7).mono ?_
            rintro e w8 ⟨rfl, b8⟩
            have i8 := i7.below b8
            have x8 := x7.below b8
            have B8 := below_step B7 b8
            clear i7 x7 B7 b8
            by_cases hg2 : r < ((mem q).length : Int)
            · clear H2
              go_wp2
              go_ret
              exact ⟨rfl, B8⟩
            · have H3 := Lib.hid (H2.out (by omega))
              clear H2
              go_wp2_with fail
              refine (HS.out _ i8 x8).mono ?_
              rintro e w9 ⟨he, b9⟩
              rw [H3.out] at he
              subst he
              have B9 := below_step B8 b9
              clear i8 x8 B8 b9
              go_wp2
              go_ret
              exact ⟨rfl, B9⟩
          · have H1' := Lib.hid (H1.out (by omega))
            clear H1
            rw [H1'.out]
            clear H1'
            go_wp2_with fail
            refine (HR.out _ i7).mono ?_
            rintro e w8 ⟨rfl, b8⟩
            have i8 := i7.below b8
            have x8 := x7.below b8
            have B8 := below_step B7 b8
            clear i7 x7 B7 b8
            by_cases hg2 : r < ((mem q).length : Int)
            · clear H2
              go_wp2
              go_ret
              exact ⟨rfl, B8⟩
            · have H3 := Lib.hid (H2.out (by omega))
              clear H2
              go_wp2_with fail
              refine (HS.out _ i8 x8).mono ?_
              rintro e w9 ⟨he, b9⟩
              rw [H3.out] at he
              subst he
              have B9 := below_step B8 b9
              clear i8 x8 B8 b9
              go_wp2
              go_ret
              exact ⟨rfl, B9⟩
    · have hl3 : (1048576 : Int) < (m.length : Int) := by omega
      go_enter Try.func11, Try.ntmps11
      go_wp2
      go_ret
      exact ⟨rfl, Below.refl _ _⟩
  · have hl3 : (1048576 : Int) < (l.length : Int) := by omega
    go_enter Try.func11, Try.ntmps11
    go_wp2
    go_ret
    exact ⟨rfl, Below.refl _ _⟩
end Go.Proofs.Ytoomaiclbblcdaa
