/- The walk of the law FnAbsorb. -/
import Derived.Test.YtmkoliebgibecaaDrawPg
import Derived.Test.YtmkoliebgibecaaPairMg
namespace Go.Proofs.Ytmkoliebgibecaa
open Go.RowKit

set_option maxRecDepth 100000 in
set_option maxHeartbeats 3200000 in
theorem walkAbsorb (A : Option Addr) (c : Nat) (l : List Int) (w : World) (ha : BL w A l) (hc : l.length ≤ c) (hm : l.length ≤ maxLen) (hmc : c ≤ maxLen) :
    Calls Try.prog 4 #[.slice A l.length c] w fun e w' => e = .returned (.bool true) ∧ Below w.heap.size w w' := by
  have hm' := hm
  unfold maxLen at hm'
  by_cases hl : l.length ≤ 1048576
  · go_enter Try.func4, Try.ntmps4
    go_wp2_with fail
    refine (drawBoth_any _ _ _ _ ha hc hm hmc).mono ?_
    rintro e w1 ⟨F, G, A1, D1, c1, d1, hF, hG, hS, hT, rfl, i1, t1, B1⟩
    clear ha hm
    have hFl : F.length ≤ 1048576 := by omega
    have hGl : G.length ≤ 1048576 := by omega
    have hFs : Short F 1048576 := fun x hx => Nat.le_trans (hS x hx) (by omega)
    have hGs : Short G 1048576 := fun x hx => Nat.le_trans (hT x hx) (by omega)
    have hO := outM_len (bothM F G) (bothOk F G)
    have sO := outM_short (bothM F G) (bothOk F G)
    go_wp2_with fail
    refine (specBoth_any _ _ _ _ _ _ _ i1 t1 hFl hGl hFs hGs).mono ?_
    rintro e w2 ⟨A2, c2, rfl, OW, b2⟩
    have i2 := i1.below b2
    have t2 := t1.below b2
    have B2 := below_step B1 b2
    clear i1 t1 B1 b2
    go_wp2_with fail
    refine (implBoth_any _ _ _ _ _ _ _ i2 t2 hFl hGl hFs hGs).mono ?_
    rintro e w3 ⟨A3, c3, rfl, OG, b3⟩
    have k3 := (OW.below b3).iss
    have j3 := OG.iss
    have i3 := i2.below b3
    have t3 := t2.below b3
    have B3 := below_step B2 b3
    clear i2 t2 B2 b3 OW OG
    generalize hok : bothOk F G = ok at *
    cases ok
    · clear hok
      go_wp2_with fail
      refine (sameSets_yes _ _ _ _ _ _ j3 k3 (by omega) sO).mono ?_
      rintro e w4 ⟨rfl, d4⟩
      have B4 := below_step B3 d4.below
      have k4 := k3.below d4.below
      have j4 := j3.below d4.below
      clear B3 k3 j3 d4
      go_wp2_with fail
      refine (sameSets_yes _ _ _ _ _ _ j4 k4 (by omega) sO).mono ?_
      rintro e w5 ⟨rfl, d5⟩
      have B5 := below_step B4 d5.below
      clear B4 k4 j4 d5
      go_wp2
      go_ret
      exact ⟨rfl, B5⟩
    · have HA := Lib.hid (absorb_laws hok)
      have HOK := Lib.hid hok
      clear hok
      go_wp2_with fail
      refine (sameSets_yes _ _ _ _ _ _ j3 k3 (by omega) sO).mono ?_
      rintro e w4 ⟨rfl, d4⟩
      have B4 := below_step B3 d4.below
      have i4 := i3.below d4.below
      have t4 := t3.below d4.below
      have j4 := j3.below d4.below
      clear B3 k3 j3 i3 t3 d4
      have HX := Lib.hid (implEither_any A1 A3 c1 c3 F (outM (bothM F G) true) w4 i4 j4 hFl (by omega) hFs sO)
      rw [HA.out.1, HA.out.2.1] at HX
      go_wp2_with fail
      refine HX.out.mono ?_
      rintro e w5 ⟨A5, c5, rfl, O5, b5⟩
      have B5 := below_step B4 b5
      have i5 := i4.below b5
      have t5 := t4.below b5
      have x5 := O5.iss
      clear B4 i4 t4 j4 b5 O5 HX
      have HE := Lib.hid (implEither_any A1 D1 c1 d1 F G w5 i5 t5 hFl hGl hFs hGs)
      rw [HOK.out] at HE
      go_wp2_with fail
      refine HE.out.mono ?_
      rintro e w6 ⟨A6, c6, rfl, O6, b6⟩
      have B6 := below_step B5 b6
      have i6 := i5.below b6
      have x6 := x5.below b6
      have y6 := O6.iss
      clear B5 i5 t5 x5 b6 O6 HE
      have hE := outM_len (eithM F G) true
      have sE := outM_short (eithM F G) true
      have HY := Lib.hid (implBoth_any A1 A6 c1 c6 F (outM (eithM F G) true) w6 i6 y6 hFl (by omega) hFs sE)
      rw [HA.out.2.2.1, HA.out.2.2.2] at HY
      go_wp2_with fail
      refine HY.out.mono ?_
      rintro e w7 ⟨A7, c7, rfl, O7, b7⟩
      have B7 := below_step B6 b7
      have i7 := i6.below b7
      have x7 := x6.below b7
      have z7 := O7.iss
      clear B6 i6 x6 y6 b7 O7 HY
      go_wp2_with fail
      refine (sameSets_yes _ _ _ _ _ _ x7 i7 hFl hFs).mono ?_
      rintro e w8 ⟨rfl, d8⟩
      have B8 := below_step B7 d8.below
      have i8 := i7.below d8.below
      have z8 := z7.below d8.below
      clear B7 i7 x7 z7 d8
      go_wp2_with fail
      refine (sameSets_yes _ _ _ _ _ _ z8 i8 hFl hFs).mono ?_
      rintro e w9 ⟨rfl, d9⟩
      have B9 := below_step B8 d9.below
      clear B8 i8 z8 d9
      go_wp2
      go_ret
      exact ⟨rfl, B9⟩
  · go_enter Try.func4, Try.ntmps4
    go_wp2
    go_ret
    exact ⟨rfl, Below.refl _ _⟩
end Go.Proofs.Ytmkoliebgibecaa
