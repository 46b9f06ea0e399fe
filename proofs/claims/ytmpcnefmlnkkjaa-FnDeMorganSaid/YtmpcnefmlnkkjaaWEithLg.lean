/- The walk of the law that a sum accepts a quorum of either. -/
import Derived.Test.YtmpcnefmlnkkjaaWSetBg
import Derived.Test.YtmpcnefmlnkkjaaEithNg
import Derived.Test.YtmpcnefmlnkkjaaPairMg
namespace Go.Proofs.Ytmpcnefmlnkkjaa
open Go.RowKit

theorem eith_comm {F G : List (List Int)} (h : bothOk F G = true) : bothOk G F = true ∧ outM (eithM G F) true = outM (eithM F G) true ∧ ∀ t, vld t = true → hasQR (outM (eithM F G) true) t = (hasQR F t || hasQR G t) := by
  obtain ⟨h1, h2⟩ := bothOk_iff.1 h
  have hF := famOk_sys h1
  have hG := famOk_sys h2
  obtain ⟨b1, b2⟩ := out_fam (eith_msk hF hG).1 (eith_msk hF hG).2
  refine ⟨bothOk_iff.2 ⟨h2, h1⟩, ?_, fun t ht => ?_⟩
  · simp only [outM, if_true]
    rw [mins_congr (eith_msk hG hF).1 (eith_msk hF hG).1 fun s _ => by rw [hasQ_eith, hasQ_eith, Bool.or_comm]]
  · have ht6 := msk_lt ht
    rw [hasQR, hasQR, hasQR, b1, h1, h2, ht, hasL_eq (famOk_allV b1) ht, hasL_eq (famOk_allV h1) ht, hasL_eq (famOk_allV h2) ht, b2 _ ht6, hasQ_eith]
    rfl

set_option maxRecDepth 100000 in
set_option maxHeartbeats 3200000 in
theorem walkEithL (A B : Option Addr) (c d : Nat) (l m : List Int) (w : World) (ha : BL w A l) (hc : l.length ≤ c) (hmc : c ≤ maxLen) (hd : m.length ≤ d) (hmd : d ≤ maxLen) :
    Calls Try.prog 5 #[.slice A l.length c, .slice B m.length d] w fun e w' => e = .returned (.bool true) ∧ Below w.heap.size w w' := by
  have hm := Nat.le_trans hc hmc
  have hmm := Nat.le_trans hd hmd
  have hm1 := hm
  have hm2 := hmm
  unfold maxLen at hm1 hm2
  by_cases hl : l.length ≤ 1048576
  · by_cases hl2 : m.length ≤ 1048576
    · obtain ⟨ml, hml⟩ : ∃ ml, ml = m.length := ⟨_, rfl⟩
      rw [← hml] at hl2 hm2 ⊢
      clear hml hmm hd hmd
      go_enter Try.func5, Try.ntmps5
      go_wp2_with fail
      refine (drawEithN_any _ _ _ _ ha hc hm hmc).mono ?_
      rintro e w1 ⟨F, G, A1, D1, c1, d1, hF, hG, hS, hT, rfl, i1, t1, B1, hAn, hBn⟩
      clear ha hm hc hmc
      have hFl : F.length ≤ 1048576 := by omega
      have hGl : G.length ≤ 1048576 := by omega
      have hFs : Short F 1048576 := fun x hx => Nat.le_trans (hS x hx) (by omega)
      have hGs : Short G 1048576 := fun x hx => Nat.le_trans (hT x hx) (by omega)
      have hO := outM_len (eithM F G) (bothOk F G)
      have sO := outM_short (eithM F G) (bothOk F G)
      go_wp2_with fail
      refine (specEither_opt _ _ _ _ _ _ _ i1 t1 hAn hBn hFl hGl hFs hGs).mono ?_
      rintro e w2 ⟨A2, c2, rfl, OW, b2⟩
      have i2 := i1.below b2
      clear hAn hBn
      have t2 := t1.below b2
      have B2 := below_step B1 b2
      clear i1 t1 B1 b2
      go_wp2_with fail
      refine (implEither_any _ _ _ _ _ _ _ i2 t2 hFl hGl hFs hGs).mono ?_
      rintro e w3 ⟨A3, c3, rfl, OG, b3⟩
      have k3 := (OW.below b3).iss
      have j3 := OG.iss
      have i3 := i2.below b3
      have t3 := t2.below b3
      have B3 := below_step B2 b3
      clear i2 t2 B2 b3 OW OG
      generalize hok : bothOk F G = ok at *
      cases ok
      · clear hok
        go_wp2_with fail
        refine (sameSets_yes _ _ _ _ _ _ j3 k3 (by omega) sO).mono ?_
        rintro e w4 ⟨rfl, d4⟩
        have B4 := below_step B3 d4.below
        have k4 := k3.below d4.below
        have j4 := j3.below d4.below
        clear B3 k3 j3 d4
        go_wp2_with fail
        refine (sameSets_yes _ _ _ _ _ _ j4 k4 (by omega) sO).mono ?_
        rintro e w5 ⟨rfl, d5⟩
        have B5 := below_step B4 d5.below
        clear B4 k4 j4 d5
        go_wp2
        go_ret
        exact ⟨rfl, B5⟩
      · have HC := Lib.hid (eith_comm hok)
        clear hok
        go_wp2_with fail
        refine (sameSets_yes _ _ _ _ _ _ j3 k3 (by omega) sO).mono ?_
        rintro e w4 ⟨rfl, d4⟩
        have B4 := below_step B3 d4.below
        have i4 := i3.below d4.below
        have t4 := t3.below d4.below
        have j4 := j3.below d4.below
        clear B3 k3 j3 i3 t3 d4
        have HF := Lib.hid HC.out.2.2
        have HC2 := Lib.hid (And.intro HC.out.1 HC.out.2.1)
        have hHl : (outM (eithM F G) true).length ≤ 1048576 := by omega
        clear HC
        generalize outM (eithM F G) true = H at *
        go_wp2
        go_loopw [11] (fun i wr => ∃ k : Nat, k ≤ 4 ∧ i = .int .i64 k ∧ Below w4.heap.size w4 wr) (fun i _ => 4 - (intOf i).toNat)
        case atStart => exact ⟨0, by omega, rfl, Below.refl _ _⟩
        case round =>
          obtain ⟨k, hk, rfl, hbel⟩ := hrel
          by_cases hlt : k < 4
          · have hkw : (ml : Int) + (k : Int) * 19 = ((ml + k * 19 : Nat) : Int) := by omega
            have hkn : ml + k * 19 ≤ 2000000 := by omega
            have hkl : IntKind.i64.wrap ((k : Int) * 19) = (k : Int) * 19 := by rw [IntKind.wrap_i64]; omega
            have hkl2 : IntKind.i64.wrap ((ml : Int) + (k : Int) * 19) = ((ml + k * 19 : Nat) : Int) := by rw [IntKind.wrap_i64]; omega
            obtain ⟨nn, hnn⟩ : ∃ nn, nn = ml + k * 19 := ⟨_, rfl⟩
            rw [← hnn] at hkw hkn hkl2
            have hn64 : nmk nn < 64 := nmk_lt nn
            have hmll := mem_len (nmk nn)
            obtain ⟨t, ht⟩ : ∃ t, t = mem (nmk nn) := ⟨_, rfl⟩
            have hvt : vld t = true := by rw [ht]; exact vld_mem hn64
            have htl : t.length ≤ 1048576 := by rw [ht]; omega
            have HS := Lib.hid (setB_any nn)
            rw [← ht] at HS
            have HQ := Lib.hid (HF.out t hvt)
            clear ht hvt hnn hmll hn64
            go_wp2_with fail
            refine (HS.out _ hkn).mono ?_
            rintro e w8 ⟨A8, c8, rfl, o8, b8⟩
            have u8 := (IL.of_own o8).1
            have hb8 := below_step hbel b8
            clear hbel b8 o8 HS hkw hkl hkl2 hkn
            go_wp2_with fail
            refine (implHasQ_any _ _ _ _ _ _ _ (j4.below hb8) u8 hHl sO htl).mono ?_
            rw [HQ.out]
            rintro e w9 ⟨rfl, b9⟩
            have hb9 := below_step hb8 b9
            have u9 := u8.below b9
            clear hb8 b9 u8
            go_wp2_with fail
            refine (implHasQ_any _ _ _ _ _ _ _ (i4.below hb9) u9 hFl hFs htl).mono ?_
            rintro e w10 ⟨rfl, b10⟩
            have hb10 := below_step hb9 b10
            have u10 := u9.below b10
            clear hb9 b10 u9 HQ
            generalize hasQR F t = q1 at *
            cases q1
            · go_wp2_with fail
              refine (implHasQ_any _ _ _ _ _ _ _ (t4.below hb10) u10 hGl hGs htl).mono ?_
              rintro e w11 ⟨rfl, b11⟩
              have hb11 := below_step hb10 b11
              clear hb10 b11 u10
              generalize hasQR G t = q2 at *
              cases q2
              · go_wp2
                go_roundw
                case rel => exact ⟨k + 1, by omega, by go_num, hb11⟩
                case measure => simp [intOf]; omega
              · go_wp2
                go_roundw
                case rel => exact ⟨k + 1, by omega, by go_num, hb11⟩
                case measure => simp [intOf]; omega
            · go_wp2
              go_roundw
              case rel => exact ⟨k + 1, by omega, by go_num, hb10⟩
              case measure => simp [intOf]; omega
          · have HX := Lib.hid (implEither_any D1 A1 d1 c1 G F wr (t4.below hbel) (i4.below hbel) hGl hFl hGs hFs)
            rw [HC2.out.1, HC2.out.2] at HX
            go_wp2_with fail
            refine HX.out.mono ?_
            rintro e w8 ⟨A8, c8, rfl, O8, b8⟩
            have B8 := below_step B4 (below_step hbel b8)
            have x8 := O8.iss
            have j8 := (j4.below hbel).below b8
            clear hbel b8 O8 HX
            go_wp2_with fail
            refine (sameSets_yes _ _ _ _ _ _ x8 j8 hHl sO).mono ?_
            rintro e w9 ⟨rfl, d9⟩
            have B9 := below_step B8 d9.below
            clear B8 x8 j8 d9
            go_wp2
            go_ret
            exact ⟨rfl, B9⟩
    · go_enter Try.func5, Try.ntmps5
      go_wp2_with fail
      go_ret
      exact ⟨rfl, Below.refl _ _⟩
  · go_enter Try.func5, Try.ntmps5
    go_wp2_with fail
    go_ret
    exact ⟨rfl, Below.refl _ _⟩
end Go.Proofs.Ytmpcnefmlnkkjaa
