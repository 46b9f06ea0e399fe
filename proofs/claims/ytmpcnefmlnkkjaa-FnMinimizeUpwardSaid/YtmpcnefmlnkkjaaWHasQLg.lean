/- The walk of the law that having a quorum is monotone. -/
import Derived.Test.YtmpcnefmlnkkjaaWSetBg
import Derived.Test.YtmpcnefmlnkkjaaDrawFg
import Derived.Test.YtmpcnefmlnkkjaaGa
namespace Go.Proofs.Ytmpcnefmlnkkjaa
open Go.RowKit

theorem hq_valid {F : List (List Int)} (h : famOk F = true) {s : List Int} (hs : vld s = true) : hasQR F s = hasL F s := by simp [hasQR, h, hs]
theorem hq_up {F : List (List Int)} (h : famOk F = true) {s : List Int} (hs : vld s = true) {m : Nat} (hm : m < 64) (hh : hasQR F s = true) : hasQR F (both union s (mem m)) = true := by
  have hv := vld_mem hm
  have h1 := msk_lt hs
  have e : both union s (mem m) = mem (msk s ||| m) := by
    rw [both_t hs hv, ← union_msk hs hv, msk_mem hm]
  have h2 : msk s ||| m < 64 := Nat.or_lt_two_pow (n := 6) h1 hm
  rw [e, hq_valid h (vld_mem h2), hasL_eq (famOk_allV h) (vld_mem h2), msk_mem h2]
  rw [hq_valid h hs, hasL_eq (famOk_allV h) hs] at hh
  refine hasQ_up (famOk_sys h).1 h1 h2 ?_ hh
  rw [sub_and h1 h2, Nat.and_or_distrib_left, Nat.and_self]
  apply Nat.eq_of_testBit_eq
  intro i
  simp only [Nat.testBit_or, Nat.testBit_and]
  cases (msk s).testBit i <;> rfl
theorem subsR_w {p t : List Int} (hp : vld p = true) (ht : vld t = true) : subsR p t = subs p t := by simp [subsR, hp, ht]

set_option maxRecDepth 100000 in
set_option maxHeartbeats 6400000 in
theorem walkHasQL (A B : Option Addr) (c d : Nat) (l m : List Int) (w : World) (ha : BL w A l) (hc : l.length ≤ c) (hmc : c ≤ maxLen) (hd : m.length ≤ d) (hmd : d ≤ maxLen) :
    Calls Try.prog 8 #[.slice A l.length c, .slice B m.length d] w fun e w' => e = .returned (.bool true) ∧ Below w.heap.size w w' := by
  have hm := Nat.le_trans hc hmc
  have hmm := Nat.le_trans hd hmd
  have hm1 := hm
  have hm2 := hmm
  unfold maxLen at hm1 hm2
  by_cases hl : l.length ≤ 1048576
  · by_cases hl2 : m.length ≤ 1048576
    · obtain ⟨ml, hml⟩ : ∃ ml, ml = m.length := ⟨_, rfl⟩
      rw [← hml] at hl2 hm2 ⊢
      clear hml hmm hd hmd
      go_enter Try.func8, Try.ntmps8
      go_wp2_with fail
      refine (drawHasQ_any _ _ _ _ ha hc hm hmc).mono ?_
      rintro e w1 ⟨F, s, A1, D1, c1, d1, hF, hS, hs7, rfl, i1, t1, B1⟩
      clear ha hm hc hmc
      have hFl : F.length ≤ 1048576 := by omega
      have hsl : s.length ≤ 1048576 := by omega
      have hFs : Short F 1048576 := fun x hx => Nat.le_trans (hS x hx) (by omega)
      go_wp2_with fail
      refine (implHasQ_any _ _ _ _ _ _ _ i1 t1 hFl hFs hsl).mono ?_
      rintro e w2 ⟨rfl, b2⟩
      have i2 := i1.below b2
      have t2 := t1.below b2
      have B2 := below_step B1 b2
      clear i1 t1 B1 b2
      go_wp2_with fail
      refine (specHasQ_any _ _ _ _ _ _ _ i2 t2 hFl hFs hsl).mono ?_
      rintro e w3 ⟨rfl, b3⟩
      have i3 := i2.below b3
      have t3 := t2.below b3
      have B3 := below_step B2 b3
      clear i2 t2 B2 b3
      by_cases hall : famOk F = true ∧ vld s = true
      · obtain ⟨h1, h2⟩ := hall
        have HQ := Lib.hid (hq_valid h1 h2)
        have HU := Lib.hid (fun (n : Nat) (hn : n < 64) (h : hasQR F s = true) => hq_up h1 h2 hn h)
        have HV := Lib.hid (And.intro h1 h2)
        have HA := Lib.hid (famOk_allV h1)
        clear h1 h2
        generalize hqd : hasQR F s = hq at *
        have HD := Lib.hid hqd
        clear hqd
        have hqq : (hq != hq) = false := by cases hq <;> rfl
        have hqe : (hq == hq) = true := by cases hq <;> rfl
        go_wp2_with fail
        refine (specFam_any _ _ _ _ i3 hFl hFs).mono ?_
        rintro e w4 ⟨he, d4⟩
        rw [HV.out.1] at he
        subst he
        have i4 := i3.below d4.below
        have t4 := t3.below d4.below
        have B4 := below_step B3 d4.below
        clear i3 t3 B3 d4
        go_wp2_with fail
        refine (specValid_drew _ _ _ _ t4 hsl).mono ?_
        rintro e w5 ⟨he, d5⟩
        have d5 : Drew w4 w5 := d5
        rw [HV.out.2] at he
        subst he
        have i5 := i4.below d5.below
        have t5 := t4.below d5.below
        have B5 := below_step B4 d5.below
        clear i4 t4 B4 d5
        go_wp2
        go_loopw [8, 9] (fun hv i wr => ∃ q : Nat, q ≤ F.length ∧ i = .int .i64 q ∧ hv = .bool (hasL (F.take q) s) ∧ Below w5.heap.size w5 wr) (fun _ i _ => F.length - (intOf i).toNat)
        case atStart => exact ⟨0, Nat.zero_le _, rfl, by simp [hasL], Below.refl _ _⟩
        case round =>
          obtain ⟨q, hq', rfl, rfl, hbq⟩ := hrel
          by_cases hqlt : q < F.length
          · have i9 := i5.below hbq
            have u9 := t5.below hbq
            obtain ⟨b1, off1, p, P1, d1', e1, hx1, hc1, hil1⟩ := i9.at_ hqlt
            subst e1
            have hpl := hS.at_ hx1
            have hki : (0 : Int) ≤ (q : Int) := by omega
            have hki2 : (q : Int) < (F.length : Int) := by omega
            have HT := Lib.hid (hasL_take (s := s) hx1)
            have HB := Lib.hid (subsR_w (HA.out p (List.mem_of_getElem? hx1)) HV.out.2)
            clear hx1
            generalize hgh : hasL (F.take q) s = hb at *
            cases hb
            · go_wp2_with fail
              refine (implSubset_any _ _ _ _ _ _ _ hil1 u9 (by omega) hsl).mono ?_
              rintro e w10 ⟨he, rfl⟩
              rw [HB.out] at he
              subst he
              have HT2 := Lib.hid (show hasL (F.take (q + 1)) s = subs p s by rw [HT.out]; rfl)
              generalize subs p s = z at *
              clear HT HB hgh hil1 hc1 u9 i9
              go_wp2
              go_roundw
              case rel => exact ⟨q + 1, by omega, by go_num, by rw [HT2.out], hbq⟩
              case measure => simp [intOf]; omega
            · go_wp2
              go_roundw
              case rel => exact ⟨q + 1, by omega, by go_num, by rw [HT.out]; rfl, hbq⟩
              case measure => simp [intOf]; omega
          · have hqe2 : q = F.length := by omega
            have HE := Lib.hid (show hasL (F.take q) s = hq by rw [hqe2, List.take_length, ← HQ.out])
            have hnl : ¬ q < F.length := hqlt
            rw [HE.out]
            have i9 := i5.below hbq
            have u9 := t5.below hbq
            have B9 := below_step B5 hbq
            clear hbq HE i5 t5 B5
            cases hq
            · go_wp2
              go_ret
              exact ⟨rfl, B9⟩
            · have hn64 : nmk ml < 64 := nmk_lt ml
              have HX := Lib.hid (HU.out _ hn64 rfl)
              have hll := mem_len (nmk ml)
              have htl : (mem (nmk ml)).length ≤ 1048576 := by omega
              have HS := Lib.hid (setB_any ml)
              have hml2 : ml ≤ 2000000 := by omega
              clear hn64 HU
              generalize mem (nmk ml) = t at *
              go_wp2_with fail
              refine (HS.out _ hml2).mono ?_
              rintro e w10 ⟨A10, c10, rfl, o10, b10⟩
              have v10 := (IL.of_own o10).1
              have u10 := u9.below b10
              have i10 := i9.below b10
              have B10 := below_step B9 b10
              clear o10 b10 u9 i9 B9 HS
              go_wp2_with fail
              refine (implUnion_any _ _ _ _ _ _ _ u10 v10 hsl htl).mono ?_
              rintro e w11 ⟨A11, c11, rfl, o11, b11⟩
              have v11 := (IL.of_own o11).1
              have i11 := i10.below b11
              have B11 := below_step B10 b11
              have hul : (both union s t).length ≤ 1048576 := bigU s t
              clear o11 b11 u10 v10 i10 B10
              generalize both union s t = U at *
              go_wp2_with fail
              refine (implHasQ_any _ _ _ _ _ _ _ i11 v11 hFl hFs hul).mono ?_
              rw [HX.out]
              rintro e w12 ⟨rfl, b12⟩
              have B12 := below_step B11 b12
              clear B11 b12
              go_wp2
              go_ret
              exact ⟨rfl, B12⟩
      · have HN := Lib.hid (show famOk F = false ∨ (famOk F = true ∧ vld s = false) by
          cases h1 : famOk F
          · exact .inl rfl
          · cases h2 : vld s
            · exact .inr ⟨rfl, rfl⟩
            · exact absurd ⟨h1, h2⟩ hall)
        clear hall
        generalize hqd : hasQR F s = hq at *
        have HD := Lib.hid hqd
        clear hqd
        have hqq : (hq != hq) = false := by cases hq <;> rfl
        have hqe : (hq == hq) = true := by cases hq <;> rfl
        go_wp2_with fail
        refine (specFam_any _ _ _ _ i3 hFl hFs).mono ?_
        rintro e w4 ⟨he, d4⟩
        have i4 := i3.below d4.below
        have t4 := t3.below d4.below
        have B4 := below_step B3 d4.below
        clear i3 t3 B3 d4
        rcases HN.out with hn | ⟨hn, hn2⟩
        · rw [hn] at he
          subst he
          have HN2 := Lib.hid hn
          clear hn
          go_wp2_with fail
          refine (specHasQ_any _ _ _ _ _ _ _ i4 t4 hFl hFs hsl).mono ?_
          rintro e w5 ⟨he, b5⟩
          rw [HD.out] at he
          subst he
          have B5 := below_step B4 b5
          clear B4 b5 i4 t4
          go_wp2
          go_ret
          exact ⟨rfl, B5⟩
        · rw [hn] at he
          subst he
          have HN2 := Lib.hid hn2
          clear hn hn2
          go_wp2_with fail
          refine (specValid_drew _ _ _ _ t4 hsl).mono ?_
          rintro e w5 ⟨he, d5⟩
          have d5 : Drew w4 w5 := d5
          rw [HN2.out] at he
          subst he
          have i5 := i4.below d5.below
          have t5 := t4.below d5.below
          have B5 := below_step B4 d5.below
          clear i4 t4 B4 d5
          go_wp2_with fail
          refine (specHasQ_any _ _ _ _ _ _ _ i5 t5 hFl hFs hsl).mono ?_
          rintro e w6 ⟨he, b6⟩
          rw [HD.out] at he
          subst he
          have B6 := below_step B5 b6
          clear B5 b6 i5 t5
          go_wp2
          go_ret
          exact ⟨rfl, B6⟩
    · go_enter Try.func8, Try.ntmps8
      go_wp2_with fail
      go_ret
      exact ⟨rfl, Below.refl _ _⟩
  · go_enter Try.func8, Try.ntmps8
    go_wp2_with fail
    go_ret
    exact ⟨rfl, Below.refl _ _⟩
end Go.Proofs.Ytmpcnefmlnkkjaa
