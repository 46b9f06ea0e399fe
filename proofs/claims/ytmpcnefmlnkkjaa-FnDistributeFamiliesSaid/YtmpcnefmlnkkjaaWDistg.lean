/- The walk of the law that products distribute over sums of quorum systems. -/
import Derived.Test.YtmpcnefmlnkkjaaWEithLg
import Derived.Test.YtmpcnefmlnkkjaaWMinUpg
import Derived.Test.YtmpcnefmlnkkjaaWQMing
namespace Go.Proofs.Ytmpcnefmlnkkjaa
open Go.RowKit

theorem iss_one {w : World} {b c : Nat} {A : Option Addr} {l : List Int} (h : w.cell? ⟨b, 0, none⟩ = some (.slice A l.length c)) (hl : IL w A l) : ISS w (some ⟨b, 0, none⟩) [l] := by
  refine .inr ⟨b, 0, rfl, World.block_lt_of_cell? w _ h, fun j y hy => ?_⟩
  cases j with
  | zero => simp at hy; subst hy; exact ⟨A, c, h, hl⟩
  | succ j => simp at hy
theorem with_two {m : Nat} (hm : m < 64) : minIn [both union (mem m) [2]] = true := by
  have H : ∀ m : Fin 64, minIn [both union (mem m.val) [2]] = true := by decide +kernel
  exact H ⟨m, hm⟩
theorem dist_laws {K F G : List (List Int)} (hk : famOk K = true) (h : bothOk F G = true) :
    bothOk K (outM (eithM F G) true) = true ∧ bothOk K F = true ∧ bothOk K G = true ∧ bothOk (outM (bothM K F) true) (outM (bothM K G) true) = true ∧
    outM (eithM (outM (bothM K F) true) (outM (bothM K G) true)) true = outM (bothM K (outM (eithM F G) true)) true := by
  obtain ⟨h1, h2⟩ := bothOk_iff.1 h
  have hK := famOk_sys hk
  have hF := famOk_sys h1
  have hG := famOk_sys h2
  obtain ⟨e1, e2⟩ := out_fam (eith_msk hF hG).1 (eith_msk hF hG).2
  obtain ⟨f1, f2⟩ := out_fam (both_msk hK hF).1 (both_msk hK hF).2
  obtain ⟨g1, g2⟩ := out_fam (both_msk hK hG).1 (both_msk hK hG).2
  refine ⟨bothOk_iff.2 ⟨hk, e1⟩, bothOk_iff.2 ⟨hk, h1⟩, bothOk_iff.2 ⟨hk, h2⟩, bothOk_iff.2 ⟨f1, g1⟩, ?_⟩
  have o1 : ∀ M : List Nat, outM M true = mems (mins M) := fun M => by simp [outM]
  rw [o1 (eithM _ _), o1 (bothM K (outM (eithM F G) true)), mins_congr (eith_msk (famOk_sys f1) (famOk_sys g1)).1 (both_msk hK (famOk_sys e1)).1 fun s hs => ?_]
  rw [hasQ_eith, hasQ_both, f2 s hs, g2 s hs, e2 s hs, hasQ_both, hasQ_both, hasQ_eith]
  cases hasQ (msks K) s <;> rfl

set_option maxRecDepth 100000 in
set_option maxHeartbeats 6400000 in
theorem walkDist (A B : Option Addr) (c d : Nat) (l m : List Int) (w : World) (ha : BL w A l) (hc : l.length ≤ c) (hmc : c ≤ maxLen) (hd : m.length ≤ d) (hmd : d ≤ maxLen) :
    Calls Try.prog 10 #[.slice A l.length c, .slice B m.length d] w fun e w' => e = .returned (.bool true) ∧ Below w.heap.size w w' := by
  have hm := Nat.le_trans hc hmc
  have hmm := Nat.le_trans hd hmd
  have hm1 := hm
  have hm2 := hmm
  unfold maxLen at hm1 hm2
  by_cases hl : l.length ≤ 1048576
  · by_cases hl2 : m.length ≤ 1048576
    · obtain ⟨ml, hml⟩ : ∃ ml, ml = m.length := ⟨_, rfl⟩
      rw [← hml] at hl2 hm2 ⊢
      clear hml hmm hd hmd
      go_enter Try.func10, Try.ntmps10
      go_wp2_with fail
      refine (drawEithN_any _ _ _ _ ha hc hm hmc).mono ?_
      rintro e w1 ⟨F, G, A1, D1, c1, d1, hF, hG, hS, hT, rfl, i1, t1, B1, hAn, hBn⟩
      clear ha hm hc hmc
      have hFl : F.length ≤ 1048576 := by omega
      have hGl : G.length ≤ 1048576 := by omega
      have hFs : Short F 1048576 := fun x hx => Nat.le_trans (hS x hx) (by omega)
      have hGs : Short G 1048576 := fun x hx => Nat.le_trans (hT x hx) (by omega)
      have hO := outM_len (eithM F G) (bothOk F G)
      have sO := outM_short (eithM F G) (bothOk F G)
      go_wp2_with fail
      refine (specEither_opt _ _ _ _ _ _ _ i1 t1 hAn hBn hFl hGl hFs hGs).mono ?_
      rintro e w2 ⟨A2, c2, rfl, OW, b2⟩
      have i2 := i1.below b2
      clear hAn hBn
      have t2 := t1.below b2
      have B2 := below_step B1 b2
      clear i1 t1 B1 b2
      go_wp2_with fail
      refine (implEither_any _ _ _ _ _ _ _ i2 t2 hFl hGl hFs hGs).mono ?_
      rintro e w3 ⟨A3, c3, rfl, OG, b3⟩
      have k3 := (OW.below b3).iss
      have j3 := OG.iss
      have i3 := i2.below b3
      have t3 := t2.below b3
      have B3 := below_step B2 b3
      clear i2 t2 B2 b3 OW OG
      generalize hok : bothOk F G = ok at *
      cases ok
      · clear hok
        go_wp2_with fail
        refine (sameSets_yes _ _ _ _ _ _ j3 k3 (by omega) sO).mono ?_
        rintro e w4 ⟨rfl, d4⟩
        have B4 := below_step B3 d4.below
        have k4 := k3.below d4.below
        have j4 := j3.below d4.below
        clear B3 k3 j3 d4
        go_wp2_with fail
        refine (sameSets_yes _ _ _ _ _ _ j4 k4 (by omega) sO).mono ?_
        rintro e w5 ⟨rfl, d5⟩
        have B5 := below_step B4 d5.below
        clear B4 k4 j4 d5
        go_wp2
        go_ret
        exact ⟨rfl, B5⟩
      · have hn64 : nmk ml < 64 := nmk_lt ml
        have hmi := with_two hn64
        obtain ⟨hk1, _, _⟩ := min_laws hmi
        have hKl := minOut_len [both union (mem (nmk ml)) [2]]
        have hKs := minOut_short [both union (mem (nmk ml)) [2]]
        have hul := bigU (mem (nmk ml)) [2]
        have htl : (mem (nmk ml)).length ≤ 1048576 := Nat.le_trans (mem_len _) (by omega)
        have HD := Lib.hid (dist_laws hk1 hok)
        have HM := Lib.hid (fun A c => implMin_any A c [both union (mem (nmk ml)) [2]])
        have HU := Lib.hid (fun A B c d => implUnion_any A B c d (mem (nmk ml)) [2])
        have HS := Lib.hid (setB_any ml)
        have hml2 : ml ≤ 2000000 := by omega
        rw [hmi] at HM
        clear hok hk1 hmi hn64
        generalize minOut [both union (mem (nmk ml)) [2]] = K at *
        generalize both union (mem (nmk ml)) [2] = u at *
        generalize mem (nmk ml) = t at *
        go_wp2_with fail
        refine (sameSets_yes _ _ _ _ _ _ j3 k3 (by omega) sO).mono ?_
        rintro e w4 ⟨rfl, d4⟩
        have B4 := below_step B3 d4.below
        have i4 := i3.below d4.below
        have t4 := t3.below d4.below
        have j4 := j3.below d4.below
        clear B3 k3 j3 i3 t3 d4
        have hHl : (outM (eithM F G) true).length ≤ 1048576 := by omega
        have P1 := Lib.hid (fun A B c d => implBoth_any A B c d K (outM (eithM F G) true))
        have P2 := Lib.hid (fun A B c d => implBoth_any A B c d K F)
        have P3 := Lib.hid (fun A B c d => implBoth_any A B c d K G)
        have P4 := Lib.hid (fun A B c d => implEither_any A B c d (outM (bothM K F) true) (outM (bothM K G) true))
        rw [HD.out.1] at P1
        rw [HD.out.2.1] at P2
        rw [HD.out.2.2.1] at P3
        rw [HD.out.2.2.2.1, HD.out.2.2.2.2] at P4
        have s1 := outM_short (bothM K (outM (eithM F G) true)) true
        have l1 := outM_len (bothM K (outM (eithM F G) true)) true
        have s2 := outM_short (bothM K F) true
        have l2 := outM_len (bothM K F) true
        have s3 := outM_short (bothM K G) true
        have l3 := outM_len (bothM K G) true
        clear HD
        generalize outM (bothM K (outM (eithM F G) true)) true = D at *
        generalize outM (bothM K F) true = X at *
        generalize outM (bothM K G) true = Y at *
        generalize outM (eithM F G) true = H at *
        go_wp2_with fail
        refine (HS.out _ hml2).mono ?_
        rintro e w5 ⟨A5, c5, rfl, o5, b5⟩
        have u5 := (IL.of_own o5).1
        have i5 := i4.below b5
        have t5 := t4.below b5
        have j5 := j4.below b5
        have B5 := below_step B4 b5
        clear b5 o5 i4 t4 j4 B4 HS
        have hb0 : Below w5.heap.size w5 (w5.alloc (.cells #[.int .i64 2] 3)) := (Below.refl _ w5).alloc (Nat.le_refl _) _
        have hc0 : (w5.alloc (.cells #[.int .i64 2] 3)).cell? ⟨w5.heap.size, 0, none⟩ = some (.int .i64 2) := by
          rw [cell_of_row _ w5.heap.size 0 _ _ (0, 0) (heap_alloc_new w5 _)]
          rfl
        have u6 := u5.below hb0
        have v6 := il_one' hc0
        have i6 := i5.below hb0
        have t6 := t5.below hb0
        have j6 := j5.below hb0
        have B6 := below_step B5 hb0
        clear u5 i5 t5 j5 B5 hc0 hb0
        go_wp2_with fail
        refine (HU.out _ _ _ _ _ u6 v6 htl (by simp)).mono ?_
        rintro e w7 ⟨A7, c7, rfl, o7, b7⟩
        have u7 := (IL.of_own o7).1
        have i7 := i6.below b7
        have t7 := t6.below b7
        have j7 := j6.below b7
        have B7 := below_step B6 b7
        clear b7 o7 u6 v6 i6 t6 j6 B6 HU
        have hb0 : Below w7.heap.size w7 (w7.alloc (.cells #[.slice A7 u.length c7] 28)) := (Below.refl _ w7).alloc (Nat.le_refl _) _
        have hc0 : (w7.alloc (.cells #[.slice A7 u.length c7] 28)).cell? ⟨w7.heap.size, 0, none⟩ = some (.slice A7 u.length c7) := by
          rw [cell_of_row _ w7.heap.size 0 _ _ (0, 0) (heap_alloc_new w7 _)]
          rfl
        have v8 := iss_one hc0 (u7.below hb0)
        have i8 := i7.below hb0
        have t8 := t7.below hb0
        have j8 := j7.below hb0
        have B8 := below_step B7 hb0
        clear u7 i7 t7 j7 B7 hc0 hb0
        go_wp2_with fail
        refine (HM.out _ _ _ v8 (by simp) (fun x hx => by simp at hx; subst hx; exact hul)).mono ?_
        rintro e w9 ⟨A9, c9, rfl, o9, b9⟩
        have k9 := o9.iss
        have i9 := i8.below b9
        have t9 := t8.below b9
        have j9 := j8.below b9
        have B9 := below_step B8 b9
        clear b9 o9 v8 i8 t8 j8 B8 HM
        go_wp2_with fail
        refine (P1.out _ _ _ _ _ k9 j9 (by omega) hHl hKs sO).mono ?_
        rintro e w10 ⟨A10, c10, rfl, o10, b10⟩
        have x10 := o10.iss
        have k10 := k9.below b10
        have i10 := i9.below b10
        have t10 := t9.below b10
        have B10 := below_step B9 b10
        clear o10 b10 k9 i9 t9 j9 B9 P1
        go_wp2_with fail
        refine (P2.out _ _ _ _ _ k10 i10 (by omega) hFl hKs hFs).mono ?_
        rintro e w11 ⟨A11, c11, rfl, o11, b11⟩
        have y11 := o11.iss
        have x11 := x10.below b11
        have k11 := k10.below b11
        have t11 := t10.below b11
        have B11 := below_step B10 b11
        clear o11 b11 x10 k10 i10 t10 B10 P2
        go_wp2_with fail
        refine (P3.out _ _ _ _ _ k11 t11 (by omega) hGl hKs hGs).mono ?_
        rintro e w12 ⟨A12, c12, rfl, o12, b12⟩
        have z12 := o12.iss
        have x12 := x11.below b12
        have y12 := y11.below b12
        have B12 := below_step B11 b12
        clear o12 b12 x11 y11 k11 t11 B11 P3
        go_wp2_with fail
        refine (P4.out _ _ _ _ _ y12 z12 (by omega) (by omega) s2 s3).mono ?_
        rintro e w13 ⟨A13, c13, rfl, o13, b13⟩
        have q13 := o13.iss
        have x13 := x12.below b13
        have B13 := below_step B12 b13
        clear o13 b13 x12 y12 z12 B12 P4
        go_wp2_with fail
        refine (sameSets_yes _ _ _ _ _ _ x13 q13 (by omega) s1).mono ?_
        rintro e w14 ⟨rfl, d14⟩
        have B14 := below_step B13 d14.below
        clear x13 q13 B13 d14
        go_wp2
        go_ret
        exact ⟨rfl, B14⟩
    · go_enter Try.func10, Try.ntmps10
      go_wp2_with fail
      go_ret
      exact ⟨rfl, Below.refl _ _⟩
  · go_enter Try.func10, Try.ntmps10
    go_wp2_with fail
    go_ret
    exact ⟨rfl, Below.refl _ _⟩
end Go.Proofs.Ytmpcnefmlnkkjaa
