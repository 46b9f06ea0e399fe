/- The walks of the laws on the optimal configuration. -/
import Derived.Test.YtnfaihgnggmpkaaCfgMg
import Derived.Test.YtnfaihgnggmpkaaWTransg
namespace Go.Proofs.Ytnfaihgnggmpkaa
open Go.RowKit

theorem optP_len (F : List (List Int)) : (optP F).length ≤ 64 := outM_len _ _
theorem optP_wt (F : List (List Int)) : wt (optP F) ≤ 384 := outM_wt _ _
theorem optP_short (F : List (List Int)) : Short (optP F) 1048576 := outM_short _ _
theorem optA_len {F : List (List Int)} (h : F.length ≤ 1048576) : (optA F).length ≤ 1048576 := by
  unfold optA
  split
  · exact h
  · simp
theorem optA_short {F : List (List Int)} (h : Short F 1048576) : Short (optA F) 1048576 := by
  unfold optA
  split
  · exact h
  · intro l hl; cases hl
theorem optA_wt {F : List (List Int)} (h : wt F ≤ 1048576) : wt (optA F) ≤ 1048576 := by
  unfold optA
  split
  · exact h
  · simp [wt]

set_option maxRecDepth 100000 in
set_option maxHeartbeats 6400000 in
theorem walkCfgOpt (A : Option Addr) (c0 : Nat) (F : List (List Int)) (w : World) (h0 : ISS w A F) (m0 : F.length ≤ maxLen) (s0 : Short F maxLen) :
    Calls Try.prog 4 #[.slice A F.length c0] w fun e w' => e = .returned (.bool true) ∧ Below w.heap.size w w' := by
  by_cases z0 : F.length + wt F ≤ 1048576
  · have L0 : F.length ≤ 1048576 := by omega
    have S0 : Short F 1048576 := wt_short (n := 1048576) (by omega)
    have M0 := Lib.hid m0
    clear m0
    obtain ⟨P, hP⟩ : ∃ P, P = optP F := ⟨_, rfl⟩
    obtain ⟨Q, hQ⟩ : ∃ Q, Q = optA F := ⟨_, rfl⟩
    obtain ⟨ok, hk⟩ : ∃ ok, ok = transOk F := ⟨_, rfl⟩
    have LP : P.length ≤ 1048576 := by rw [hP]; exact Nat.le_trans (optP_len F) (by omega)
    have SP : Short P 1048576 := by rw [hP]; exact optP_short F
    have LA : Q.length ≤ 1048576 := by rw [hQ]; exact optA_len L0
    have SA : Short Q 1048576 := by rw [hQ]; exact optA_short S0
    have WH := Lib.hid (show wt P ≤ 384 ∧ wt Q ≤ 1048576 from ⟨by rw [hP]; exact optP_wt F, by rw [hQ]; exact optA_wt (F := F) (by omega)⟩)
    have HP := Lib.hid (And.intro hP (And.intro hQ hk))
    clear hP hQ hk
    go_enter Try.func4, Try.ntmps4
    go_wp2_with fail
    refine (szIntSS_yes _ _ 1048576 _ _ h0 M0.out s0 (Nat.le_refl _) z0).mono ?_
    rintro e w' ⟨rfl, rfl⟩
    have ZH := Lib.hid z0
    clear z0
    go_wp2_with fail
    refine (toIntSS_any _ _ _ _ h0 L0 S0).mono ?_
    rintro e w1 ⟨g1, rfl, p0, b1⟩
    go_wp2_with fail
    refine (specOpt_any _ _ _ _ p0.iss L0 S0).mono ?_
    rw [← HP.out.1, ← HP.out.2.1, ← HP.out.2.2]
    rintro e w2 ⟨A2, B2, c2, d2, m2, rfl, hm2, hn2, OP, OQ, b2⟩
    have ba := (Below.refl _ w2).alloc (Nat.le_refl w2.heap.size) (.cells #[.slice A2 P.length c2, .slice B2 Q.length d2] 26)
    have B1 := below_step (below_step b1 b2) ba
    have hq0 : w.heap.size ≤ w2.heap.size := Nat.le_trans b1.size b2.size
    have cw := CB.new w2 (.slice A2 P.length c2) (.slice B2 Q.length d2)
    have WP := OP.below ba
    have WQ := OQ.below ba
    clear p0 b1 b2 ba OP OQ
    go_wp2_with fail
    refine (toIntSS_any _ _ _ _ (h0.below B1) L0 S0).mono ?_
    rintro e w3 ⟨g3, rfl, OX, b3⟩
    have cw3 := cw.below b3
    have WP3 := WP.below b3
    have WQ3 := WQ.below b3
    have B3 := below_step B1 b3
    have z3 := b3.size
    clear cw WP WQ B1 b3
    go_wp2_with fail
    refine (implOpt_any _ _ _ _ OX.iss L0 S0).mono ?_
    rw [← HP.out.1, ← HP.out.2.1, ← HP.out.2.2]
    rintro e w4 ⟨A4, B4, c4, d4, m4, rfl, hm4, hn4, GP, GQ, b4⟩
    have ba := (Below.refl _ w4).alloc (Nat.le_refl w4.heap.size) (.cells #[.slice A4 P.length c4, .slice B4 Q.length d4] 26)
    have bb := below_step b4 ba
    have B4' := below_step B3 bb
    have cw4 := cw3.below bb
    have cg := CB.new w4 (.slice A4 P.length c4) (.slice B4 Q.length d4)
    have WP4 := WP3.below bb
    have WQ4 := WQ3.below bb
    have OX4 := OX.below bb
    have GP4 := GP.below ba
    have GQ4 := GQ.below ba
    have z4 := b4.size
    have r0 := cw4.c0
    have r1 := cw4.c1
    clear cw3 WP3 WQ3 OX B3 b4 GP GQ ba bb
    have t0 := cg.c0
    have t1 := cg.c1
    go_wp2_with fail
    refine (eqConfig_yes _ _ _ _ _ _ _ _ _ _ _ GP4.iss GQ4.iss WP4.iss WQ4.iss LP SP LA SA).mono ?_
    rintro e w5 ⟨rfl, b5⟩
    have cw5 := cw4.below b5
    have cg5 := cg.below b5
    have WP5 := WP4.below b5
    have WQ5 := WQ4.below b5
    have OX5 := OX4.below b5
    have GP5 := GP4.below b5
    have GQ5 := GQ4.below b5
    have B5 := below_step B4' b5
    have z5 := b5.size
    rw [World.size_alloc] at z5
    clear cw4 cg WP4 WQ4 OX4 GP4 GQ4 B4' b5 r0 r1 t0 t1
    have nn : (ok != ok) = false := by cases ok <;> rfl
    go_wp2_with fail
    refine (toIntSS_any _ _ _ _ (h0.below B5) L0 S0).mono ?_
    rintro e w6 ⟨g6, rfl, OY, b6⟩
    have cw6 := cw5.below b6
    have cg6 := cg5.below b6
    have WP6 := WP5.below b6
    have WQ6 := WQ5.below b6
    have OX6 := OX5.below b6
    have GP6 := GP5.below b6
    have GQ6 := GQ5.below b6
    have B6 := below_step B5 b6
    have z6 := b6.size
    clear cw5 cg5 WP5 WQ5 OX5 GP5 GQ5 B5 b6
    go_wp2_with fail
    refine (eqIntSS_yes _ _ _ _ _ _ OX6.iss OY.iss L0 S0).mono ?_
    rintro e w7 ⟨rfl, d7⟩
    have b7 := d7.below
    have cw7 := cw6.below b7
    have cg7 := cg6.below b7
    have WP7 := WP6.below b7
    have WQ7 := WQ6.below b7
    have OX7 := OX6.below b7
    have GP7 := GP6.below b7
    have GQ7 := GQ6.below b7
    have B7 := below_step B6 b7
    have z7 := b7.size
    clear cw6 cg6 WP6 WQ6 OX6 GP6 GQ6 B6 b7 d7 OY
    go_wp2_with fail
    refine (markSS_i _ _ _ _ _ (1) _ (by omega) _ OX7 L0 (by have := ZH.out; omega) (by omega)).mono ?_
    rintro e w8 ⟨rfl, _, k8⟩
    have cw8 : CB w8 w2.heap.size (.slice A2 P.length c2) (.slice B2 Q.length d2) := cw7.kept (k8.block _ cw7.lt (by simp only [World.size_alloc]; omega))
    have cg8 : CB w8 w4.heap.size (.slice A4 P.length c4) (.slice B4 Q.length d4) := cg7.kept (k8.block _ cg7.lt (by omega))
    have zk := k8.size
    have zl : w2.heap.size < (w2.alloc (.cells #[.slice A2 P.length c2, .slice B2 Q.length d2] 26)).heap.size := by simp
    have WP8 := WP7.keep k8 (.inl (by omega))
    have WQ8 := WQ7.keep k8 (.inl (by omega))
    have GP8 := GP7.keep k8 (.inr (by omega))
    have GQ8 := GQ7.keep k8 (.inr (by omega))
    have B8 := below_keep B7 k8 (by omega)
    have r0 := cw8.c0
    have r1 := cw8.c1
    have t0 := cg8.c0
    have t1 := cg8.c1
    clear cw7 cg7 WP7 WQ7 OX7 GP7 GQ7 B7 k8
    go_wp2_with fail
    refine (eqConfig_yes _ _ _ _ _ _ _ _ _ _ _ GP8.iss GQ8.iss WP8.iss WQ8.iss LP SP LA SA).mono ?_
    rintro e w9 ⟨rfl, b9⟩
    have cw9 := cw8.below b9
    have cg9 := cg8.below b9
    have WP9 := WP8.below b9
    have WQ9 := WQ8.below b9
    have GP9 := GP8.below b9
    have GQ9 := GQ8.below b9
    have B9 := below_step B8 b9
    have z9 := b9.size
    clear cw8 cg8 WP8 WQ8 GP8 GQ8 B8 b9 r0 r1 t0 t1
    have t0 := cg9.c0
    have t1 := cg9.c1
    go_wp2_with fail
    refine (markConfig_own _ _ _ _ _ _ _ _ _ 1 _ (by omega) _ GP9 GQ9 hm4 hn4 LP (by have := WH.out; omega) LA WH.out.2 (by have := WH.out; omega)).mono ?_
    rintro e w10 ⟨rfl, GP10, GQ10, k10⟩
    have cw10 : CB w10 w2.heap.size (.slice A2 P.length c2) (.slice B2 Q.length d2) := cw9.kept (k10.block _ cw9.lt (by omega))
    have cg10 : CB w10 w4.heap.size (.slice A4 P.length c4) (.slice B4 Q.length d4) := cg9.kept (k10.block _ cg9.lt (by omega))
    have WP10 := WP9.keep k10 (.inl (by omega))
    have WQ10 := WQ9.keep k10 (.inl (by omega))
    have B10 := below_keep B9 k10 (by omega)
    clear cw9 cg9 WP9 WQ9 GP9 GQ9 B9 k10 t0 t1
    have t0 := cg10.c0
    have t1 := cg10.c1
    have n1 : decide ((1 : Int) + (wt P : Int) + (wt Q : Int) < 0) = false := decide_eq_false (by omega)
    go_wp2_with fail
    refine (heldConfig_any _ _ _ _ _ _ 1 _ (by omega) _ GP10.iss GQ10.iss LP (by have := WH.out; omega) LA WH.out.2 (by have := WH.out; omega)).mono ?_
    rintro e w11 ⟨rfl, b11⟩
    have cw11 := cw10.below b11
    have cg11 := cg10.below b11
    have WP11 := WP10.below b11
    have WQ11 := WQ10.below b11
    have GP11 := GP10.below b11
    have GQ11 := GQ10.below b11
    have B11 := below_step B10 b11
    clear cw10 cg10 WP10 WQ10 GP10 GQ10 B10 b11 t0 t1
    go_wp2_with fail
    refine (toIntSS_any _ _ _ _ (h0.below B11) L0 S0).mono ?_
    rintro e w12 ⟨g12, rfl, OZ, b12⟩
    have cw12 := cw11.below b12
    have cg12 := cg11.below b12
    have WP12 := WP11.below b12
    have WQ12 := WQ11.below b12
    have GP12 := GP11.below b12
    have GQ12 := GQ11.below b12
    have B12 := below_step B11 b12
    clear cw11 cg11 WP11 WQ11 GP11 GQ11 B11 b12
    go_wp2_with fail
    refine (implOpt_any _ _ _ _ OZ.iss L0 S0).mono ?_
    rw [← HP.out.1, ← HP.out.2.1, ← HP.out.2.2]
    rintro e w13 ⟨A13, B13', c13, d13, m13, rfl, hm13, hn13, HG, HQ, b13⟩
    have ba := (Below.refl _ w13).alloc (Nat.le_refl w13.heap.size) (.cells #[.slice A13 P.length c13, .slice B13' Q.length d13] 26)
    have bb := below_step b13 ba
    have B13 := below_step B12 bb
    have cw13 := cw12.below bb
    have cg13 := cg12.below bb
    have ch := CB.new w13 (.slice A13 P.length c13) (.slice B13' Q.length d13)
    have WP13 := WP12.below bb
    have WQ13 := WQ12.below bb
    have GP13 := GP12.below bb
    have GQ13 := GQ12.below bb
    have HG13 := HG.below ba
    have HQ13 := HQ.below ba
    have r0 := cw13.c0
    have r1 := cw13.c1
    clear cw12 cg12 WP12 WQ12 GP12 GQ12 B12 b13 HG HQ ba bb OZ
    have t0 := ch.c0
    have t1 := ch.c1
    go_wp2_with fail
    refine (eqConfig_yes _ _ _ _ _ _ _ _ _ _ _ HG13.iss HQ13.iss WP13.iss WQ13.iss LP SP LA SA).mono ?_
    rintro e w14 ⟨rfl, b14⟩
    have cg14 := cg13.below b14
    have GP14 := GP13.below b14
    have GQ14 := GQ13.below b14
    have B14 := below_step B13 b14
    clear cw13 cg13 WP13 WQ13 GP13 GQ13 B13 b14 ch HG13 HQ13 r0 r1 t0 t1
    have t0 := cg14.c0
    have t1 := cg14.c1
    go_wp2_with fail
    refine (heldConfig_any _ _ _ _ _ _ 1 _ (by omega) _ GP14.iss GQ14.iss LP (by have := WH.out; omega) LA WH.out.2 (by have := WH.out; omega)).mono ?_
    rintro e w15 ⟨rfl, b15⟩
    have B15 := below_step B14 b15
    clear cg14 GP14 GQ14 B14 b15 t0 t1
    go_wp2
    go_ret
    exact ⟨rfl, B15⟩
  · go_enter Try.func4, Try.ntmps4
    go_wp2_with fail
    refine (szIntSS_no _ _ 1048576 _ _ h0 m0 s0 (Nat.le_refl _) z0).mono ?_
    rintro e w' ⟨rfl, rfl⟩
    go_wp2
    go_ret
    exact ⟨rfl, Below.refl _ _⟩
end Go.Proofs.Ytnfaihgnggmpkaa
