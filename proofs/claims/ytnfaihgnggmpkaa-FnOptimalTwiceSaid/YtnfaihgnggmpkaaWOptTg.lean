/- The walk of the law on optimizing twice. -/
import Derived.Test.YtnfaihgnggmpkaaCfgMg
import Derived.Test.YtnfaihgnggmpkaaDrawFg
import Derived.Test.YtnfaihgnggmpkaaWTwiceg
import Derived.Test.YtnfaihgnggmpkaaWCfgOg
namespace Go.Proofs.Ytnfaihgnggmpkaa
open Go.RowKit

set_option maxRecDepth 100000 in
set_option maxHeartbeats 1600000 in
theorem drawOpt_any (A : Option Addr) (c : Nat) (l : List Int) (w : World) (ha : BL w A l) (hc : l.length ≤ c) (hm : l.length ≤ maxLen) (hmc : c ≤ maxLen) :
    Calls Try.prog 5 #[.slice A l.length c] w (DrewF w) := by
  go_enter Try.func5, Try.ntmps5
  go_wp2_with fail
  refine (l6Open_any _ _ _ _ ha hc hm hmc).mono ?_
  rintro e w1 ⟨rfl, hr1, b1⟩
  go_wp2_with fail
  refine (l91Family_any _ _ _ hr1 (by omega)).mono ?_
  rintro e w2 ⟨F, A2, c2, q2, hF, hS, rfl, o2, hr2, hq2, g2⟩
  have D := Lib.hid (show DrewF w (.returned (.slice A2 F.length c2)) w2 from ⟨F, A2, c2, hF, hS, rfl, o2.iss, rd_below b1 g2⟩)
  clear o2 hr1 hr2 g2 b1
  go_wp2
  go_ret
  exact D.out

set_option maxRecDepth 100000 in
set_option maxHeartbeats 6400000 in
theorem walkOptT (A : Option Addr) (c : Nat) (l : List Int) (w : World) (ha : BL w A l) (hc : l.length ≤ c) (hm : l.length ≤ maxLen) (hmc : c ≤ maxLen) :
    Calls Try.prog 3 #[.slice A l.length c] w fun e w' => e = .returned (.bool true) ∧ Below w.heap.size w w' := by
  have hm' := hm
  unfold maxLen at hm'
  by_cases hl : l.length ≤ 1048576
  · go_enter Try.func3, Try.ntmps3
    go_wp2_with fail
    refine (drawOpt_any _ _ _ _ ha hc hm hmc).mono ?_
    rintro e w1 ⟨F, A1, c1, hF, hS, rfl, i1, B1⟩
    clear ha hm
    have L0 : F.length ≤ 1048576 := by omega
    have S0 : Short F 1048576 := fun x hx => Nat.le_trans (hS x hx) (by omega)
    obtain ⟨P, hP⟩ : ∃ P, P = optP F := ⟨_, rfl⟩
    obtain ⟨Q, hQ⟩ : ∃ Q, Q = optA F := ⟨_, rfl⟩
    obtain ⟨ok, hk⟩ : ∃ ok, ok = transOk F := ⟨_, rfl⟩
    have LP : P.length ≤ 1048576 := by rw [hP]; exact Nat.le_trans (optP_len F) (by omega)
    have SP : Short P 1048576 := by rw [hP]; exact optP_short F
    have LA : Q.length ≤ 1048576 := by rw [hQ]; exact optA_len L0
    have SA : Short Q 1048576 := by rw [hQ]; exact optA_short S0
    have HP := Lib.hid (And.intro hP (And.intro hQ hk))
    have H2 := Lib.hid (show ok = true → transOk P = true ∧ optP P = F ∧ optA P = P from fun h => by
      have h1 : transOk F = true := hk ▸ h
      have e1 : P = outM (transM F) true := by rw [hP, optP, h1]
      have e2 : transOk P = true := by rw [e1]; exact trans_ok2 h1
      refine ⟨e2, ?_, by simp [optA, e2]⟩
      rw [optP, e2, e1]
      exact trans_twice h1)
    clear hP hQ hk
    go_wp2_with fail
    refine (specOpt_any _ _ _ _ i1 L0 S0).mono ?_
    rw [← HP.out.1, ← HP.out.2.1, ← HP.out.2.2]
    rintro e w2 ⟨A2, B2, c2, d2, m2, rfl, hm2, hn2, OP, OQ, b2⟩
    have ba := (Below.refl _ w2).alloc (Nat.le_refl w2.heap.size) (.cells #[.slice A2 P.length c2, .slice B2 Q.length d2] 26)
    have bb := below_step b2 ba
    have B2' := below_step B1 bb
    have i2 := i1.below bb
    have cw := CB.new w2 (.slice A2 P.length c2) (.slice B2 Q.length d2)
    have WP := (OP.below ba).iss
    have WQ := (OQ.below ba).iss
    clear b2 ba OP OQ bb B1 i1
    go_wp2_with fail
    refine (implOpt_any _ _ _ _ i2 L0 S0).mono ?_
    rw [← HP.out.1, ← HP.out.2.1, ← HP.out.2.2]
    rintro e w4 ⟨A4, B4, c4, d4, m4, rfl, hm4, hn4, GP, GQ, b4⟩
    have ba := (Below.refl _ w4).alloc (Nat.le_refl w4.heap.size) (.cells #[.slice A4 P.length c4, .slice B4 Q.length d4] 26)
    have bb := below_step b4 ba
    have B4' := below_step B2' bb
    have i4 := i2.below bb
    have cw4 := cw.below bb
    have cg := CB.new w4 (.slice A4 P.length c4) (.slice B4 Q.length d4)
    have WP4 := WP.below bb
    have WQ4 := WQ.below bb
    have GP4 := (GP.below ba).iss
    have GQ4 := (GQ.below ba).iss
    have r0 := cw4.c0
    have r1 := cw4.c1
    clear WP WQ B2' b4 GP GQ ba bb cw i2
    have t0 := cg.c0
    have t1 := cg.c1
    cases ok
    · go_wp2_with fail
      refine (sameConfig_yes _ _ _ _ _ _ _ _ _ _ _ GP4 GQ4 WP4 WQ4 LP SP LA SA).mono ?_
      rintro e w5 ⟨rfl, b5⟩
      have cw5 := cw4.below b5
      have cg5 := cg.below b5
      have WP5 := WP4.below b5
      have WQ5 := WQ4.below b5
      have GP5 := GP4.below b5
      have GQ5 := GQ4.below b5
      have B5 := below_step B4' b5
      clear cw4 cg WP4 WQ4 GP4 GQ4 B4' b5 r0 r1 t0 t1
      have r0 := cw5.c0
      have r1 := cw5.c1
      have t0 := cg5.c0
      have t1 := cg5.c1
      go_wp2_with fail
      refine (sameConfig_yes _ _ _ _ _ _ _ _ _ _ _ GP5 GQ5 WP5 WQ5 LP SP LA SA).mono ?_
      rintro e w6 ⟨rfl, b6⟩
      have B6 := below_step B5 b6
      clear cw5 cg5 WP5 WQ5 GP5 GQ5 B5 b6 r0 r1 t0 t1
      go_wp2
      go_ret
      exact ⟨rfl, B6⟩
    · have H3 := Lib.hid (H2.out rfl)
      go_wp2_with fail
      refine (sameConfig_yes _ _ _ _ _ _ _ _ _ _ _ GP4 GQ4 WP4 WQ4 LP SP LA SA).mono ?_
      rintro e w5 ⟨rfl, b5⟩
      have cg5 := cg.below b5
      have GP5 := GP4.below b5
      have i5 := i4.below b5
      have B5 := below_step B4' b5
      clear cw4 cg WP4 WQ4 GP4 GQ4 B4' b5 r0 r1 t0 t1 i4
      have t0 := cg5.c0
      go_wp2_with fail
      refine (implOpt_any _ _ _ _ GP5 LP SP).mono ?_
      rw [H3.out.1, H3.out.2.1, H3.out.2.2]
      rintro e w6 ⟨A6, B6', c6, d6, m6, rfl, hm6, hn6, HG, HQ, b6⟩
      have ba := (Below.refl _ w6).alloc (Nat.le_refl w6.heap.size) (.cells #[.slice A6 F.length c6, .slice B6' P.length d6] 26)
      have bb := below_step b6 ba
      have B6 := below_step B5 bb
      have cg6 := cg5.below bb
      have ch := CB.new w6 (.slice A6 F.length c6) (.slice B6' P.length d6)
      have GP6 := GP5.below bb
      have i6 := i5.below bb
      have HG6 := (HG.below ba).iss
      have HQ6 := (HQ.below ba).iss
      clear cg5 GP5 i5 B5 bb ba b6 HG HQ t0
      have t0 := ch.c0
      go_wp2_with fail
      refine (sameSets_yes _ _ _ _ _ _ HG6 i6 L0 S0).mono ?_
      rintro e w7 ⟨rfl, d7⟩
      have b7 := d7.below
      have B7 := below_step B6 b7
      have cg7 := cg6.below b7
      have ch7 := ch.below b7
      have GP7 := GP6.below b7
      have HQ7 := HQ6.below b7
      clear B6 cg6 ch GP6 HQ6 HG6 i6 b7 d7 t0
      have t0 := cg7.c0
      have t1 := ch7.c1
      go_wp2_with fail
      refine (sameSets_yes _ _ _ _ _ _ HQ7 GP7 LP SP).mono ?_
      rintro e w8 ⟨rfl, d8⟩
      have B8 := below_step B7 d8.below
      clear B7 cg7 ch7 GP7 HQ7 d8 t0 t1
      go_wp2
      go_ret
      exact ⟨rfl, B8⟩
  · go_enter Try.func3, Try.ntmps3
    go_wp2
    go_ret
    exact ⟨rfl, Below.refl _ _⟩
end Go.Proofs.Ytnfaihgnggmpkaa
