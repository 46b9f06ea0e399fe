/- The walks of the laws on Resilience, Availability, SmallestQuorum and Survives. -/
import Derived.Test.YtoomaiclbblcdaaMetTg
import Derived.Test.YtoomaiclbblcdaaMetIg
namespace Go.Proofs.Ytoomaiclbblcdaa
open Go.RowKit

set_option maxRecDepth 100000 in
set_option maxHeartbeats 800000 in
theorem walkRes (A : Option Addr) (c : Nat) (F : List (List Int)) (n : Int) (w : World) (ha : ISS w A F) (hm : F.length ≤ maxLen) (hms : Short F maxLen) :
    Calls Try.prog 12 #[.slice A F.length c, .int .i64 n] w fun e w' => e = .returned (.bool true) ∧ Below w.heap.size w w' := by
  by_cases hsz : F.length + wt F ≤ 1048576
  · have hl : F.length ≤ 1048576 := by omega
    have hs := wt_short hsz
    have HM := Lib.hid hm
    clear hm
    go_enter Try.func12, Try.ntmps12
    go_wp2_with fail
    refine (szIntSS_yes _ _ 1048576 _ _ ha HM.out hms (Nat.le_refl _) hsz).mono ?_
    rintro e w' ⟨rfl, rfl⟩
    go_wp2_with fail
    refine (toIntSS_any _ _ _ _ ha hl hs).mono ?_
    rintro e w1 ⟨g1, rfl, o1, b1⟩
    go_wp2_with fail
    refine (specRes_any _ _ _ n _ o1.iss hl hs).mono ?_
    rintro e w2 ⟨rfl, d2⟩
    have b2' := below_step b1 d2
    clear o1 b1 d2
    go_wp2_with fail
    refine (toIntSS_any _ _ _ _ (ha.below b2') hl hs).mono ?_
    rintro e w3 ⟨g3, rfl, o3, b3⟩
    have b3' := below_step b2' b3
    clear b3 b2'
    go_wp2_with fail
    refine (implRes_any _ _ _ n _ o3.iss hl hs).mono ?_
    rintro e w4 ⟨rfl, b4⟩
    have b4' := below_step b3' b4
    have o4 := o3.below b4
    clear b4 b3' o3
    go_wp2_with fail
    refine (toIntSS_any _ _ _ _ (ha.below b4') hl hs).mono ?_
    rintro e w5 ⟨g5, rfl, o5, b5⟩
    have b5' := below_step b4' b5
    have o45 := o4.below b5
    clear b5 b4' o4
    go_wp2_with fail
    refine (eqIntSS_yes _ _ _ _ _ _ o45.iss o5.iss hl hs).mono ?_
    rintro e w6 ⟨rfl, d6⟩
    have b6' := below_step b5' d6.below
    clear o45 o5 d6 b5'
    go_wp2
    go_ret
    exact ⟨rfl, b6'⟩
  · go_enter Try.func12, Try.ntmps12
    go_wp2_with fail
    refine (szIntSS_no _ _ 1048576 _ _ ha hm hms (Nat.le_refl _) hsz).mono ?_
    rintro e w' ⟨rfl, rfl⟩
    go_wp2
    go_ret
    exact ⟨rfl, Below.refl _ _⟩

set_option maxRecDepth 100000 in
set_option maxHeartbeats 800000 in
theorem walkAv (A : Option Addr) (c : Nat) (F : List (List Int)) (n : Int) (w : World) (ha : ISS w A F) (hm : F.length ≤ maxLen) (hms : Short F maxLen) :
    Calls Try.prog 13 #[.slice A F.length c, .int .i64 n] w fun e w' => e = .returned (.bool true) ∧ Below w.heap.size w w' := by
  by_cases hsz : F.length + wt F ≤ 1048576
  · have hl : F.length ≤ 1048576 := by omega
    have hs := wt_short hsz
    have HM := Lib.hid hm
    clear hm
    go_enter Try.func13, Try.ntmps13
    go_wp2_with fail
    refine (szIntSS_yes _ _ 1048576 _ _ ha HM.out hms (Nat.le_refl _) hsz).mono ?_
    rintro e w' ⟨rfl, rfl⟩
    go_wp2_with fail
    refine (toIntSS_any _ _ _ _ ha hl hs).mono ?_
    rintro e w1 ⟨g1, rfl, o1, b1⟩
    go_wp2_with fail
    refine (specAv_any _ _ _ n _ o1.iss hl hs).mono ?_
    rintro e w2 ⟨rfl, d2⟩
    have b2' := below_step b1 d2
    clear o1 b1 d2
    go_wp2_with fail
    refine (toIntSS_any _ _ _ _ (ha.below b2') hl hs).mono ?_
    rintro e w3 ⟨g3, rfl, o3, b3⟩
    have b3' := below_step b2' b3
    clear b3 b2'
    go_wp2_with fail
    refine (implAv_any _ _ _ n _ o3.iss hl hs).mono ?_
    rintro e w4 ⟨rfl, b4⟩
    have b4' := below_step b3' b4
    have o4 := o3.below b4
    clear b4 b3' o3
    go_wp2_with fail
    refine (toIntSS_any _ _ _ _ (ha.below b4') hl hs).mono ?_
    rintro e w5 ⟨g5, rfl, o5, b5⟩
    have b5' := below_step b4' b5
    have o45 := o4.below b5
    clear b5 b4' o4
    go_wp2_with fail
    refine (eqIntSS_yes _ _ _ _ _ _ o45.iss o5.iss hl hs).mono ?_
    rintro e w6 ⟨rfl, d6⟩
    have b6' := below_step b5' d6.below
    clear o45 o5 d6 b5'
    go_wp2
    go_ret
    exact ⟨rfl, b6'⟩
  · go_enter Try.func13, Try.ntmps13
    go_wp2_with fail
    refine (szIntSS_no _ _ 1048576 _ _ ha hm hms (Nat.le_refl _) hsz).mono ?_
    rintro e w' ⟨rfl, rfl⟩
    go_wp2
    go_ret
    exact ⟨rfl, Below.refl _ _⟩

set_option maxRecDepth 100000 in
set_option maxHeartbeats 800000 in
theorem walkSmall (A : Option Addr) (c : Nat) (F : List (List Int)) (w : World) (ha : ISS w A F) (hm : F.length ≤ maxLen) (hms : Short F maxLen) :
    Calls Try.prog 14 #[.slice A F.length c] w fun e w' => e = .returned (.bool true) ∧ Below w.heap.size w w' := by
  by_cases hsz : F.length + wt F ≤ 1048576
  · have hl : F.length ≤ 1048576 := by omega
    have hs := wt_short hsz
    have HM := Lib.hid hm
    clear hm
    go_enter Try.func14, Try.ntmps14
    go_wp2_with fail
    refine (szIntSS_yes _ _ 1048576 _ _ ha HM.out hms (Nat.le_refl _) hsz).mono ?_
    rintro e w' ⟨rfl, rfl⟩
    go_wp2_with fail
    refine (toIntSS_any _ _ _ _ ha hl hs).mono ?_
    rintro e w1 ⟨g1, rfl, o1, b1⟩
    go_wp2_with fail
    refine (specSmall_any _ _ _ _ o1.iss hl hs).mono ?_
    rintro e w2 ⟨rfl, d2⟩
    have b2' := below_step b1 d2.below
    clear o1 b1 d2
    go_wp2_with fail
    refine (toIntSS_any _ _ _ _ (ha.below b2') hl hs).mono ?_
    rintro e w3 ⟨g3, rfl, o3, b3⟩
    have b3' := below_step b2' b3
    clear b3 b2'
    go_wp2_with fail
    refine (implSmall_any _ _ _ _ o3.iss hl hs).mono ?_
    rintro e w4 ⟨rfl, b4⟩
    have b4' := below_step b3' b4
    have o4 := o3.below b4
    clear b4 b3' o3
    go_wp2_with fail
    refine (toIntSS_any _ _ _ _ (ha.below b4') hl hs).mono ?_
    rintro e w5 ⟨g5, rfl, o5, b5⟩
    have b5' := below_step b4' b5
    have o45 := o4.below b5
    clear b5 b4' o4
    go_wp2_with fail
    refine (eqIntSS_yes _ _ _ _ _ _ o45.iss o5.iss hl hs).mono ?_
    rintro e w6 ⟨rfl, d6⟩
    have b6' := below_step b5' d6.below
    clear o45 o5 d6 b5'
    go_wp2
    go_ret
    exact ⟨rfl, b6'⟩
  · go_enter Try.func14, Try.ntmps14
    go_wp2_with fail
    refine (szIntSS_no _ _ 1048576 _ _ ha hm hms (Nat.le_refl _) hsz).mono ?_
    rintro e w' ⟨rfl, rfl⟩
    go_wp2
    go_ret
    exact ⟨rfl, Below.refl _ _⟩

set_option maxRecDepth 100000 in
set_option maxHeartbeats 1600000 in
theorem walkSurv (A B : Option Addr) (c d : Nat) (F : List (List Int)) (s : List Int) (w : World) (ha : ISS w A F) (hb : IL w B s) (hm : F.length ≤ maxLen) (hms : Short F maxLen) (hmb : s.length ≤ maxLen) :
    Calls Try.prog 16 #[.slice A F.length c, .slice B s.length d] w fun e w' => e = .returned (.bool true) ∧ Below w.heap.size w w' := by
  unfold maxLen at hmb
  by_cases hlb : s.length ≤ 1048576
  · by_cases hsz : F.length + wt F ≤ 1048576
    · have hl : F.length ≤ 1048576 := by omega
      have hs := wt_short hsz
      have HM := Lib.hid hm
      clear hm
      go_enter Try.func16, Try.ntmps16
      go_wp2_with fail
      refine (szIntSS_yes _ _ 1048576 _ _ ha HM.out hms (Nat.le_refl _) hsz).mono ?_
      rintro e w' ⟨rfl, rfl⟩
      go_wp2_with fail
      refine (toIntSS_any _ _ _ _ ha hl hs).mono ?_
      rintro e w1 ⟨g1, rfl, o1, b1⟩
      go_wp2_with fail
      refine (toIntS_any _ _ _ _ (hb.below b1) hlb).mono ?_
      rintro e w2 ⟨g2, rfl, o2, b2⟩
      go_wp2_with fail
      refine (specSurv_any _ _ _ _ _ _ _ (o1.below b2).iss (IL.of_own o2).1 hl hs hlb).mono ?_
      rintro e w3 ⟨rfl, b3⟩
      have B3 := below_step (below_step b1 b2) b3
      clear o1 o2 b1 b2 b3
      go_wp2_with fail
      refine (toIntSS_any _ _ _ _ (ha.below B3) hl hs).mono ?_
      rintro e w4 ⟨g4, rfl, o4, b4⟩
      have B4 := below_step B3 b4
      clear B3 b4
      go_wp2_with fail
      refine (toIntS_any _ _ _ _ (hb.below B4) hlb).mono ?_
      rintro e w5 ⟨g5, rfl, o5, b5⟩
      have B5 := below_step B4 b5
      have o4 := o4.below b5
      have O5 := (IL.of_own o5).1
      clear B4 b5 o5
      go_wp2_with fail
      refine (implSurv_any _ _ _ _ _ _ _ o4.iss O5 hl hs hlb).mono ?_
      rintro e w6 ⟨rfl, b6⟩
      have B6 := below_step B5 b6
      have o4 := o4.below b6
      have O5 := O5.below b6
      clear B5 b6
      go_wp2_with fail
      refine (toIntSS_any _ _ _ _ (ha.below B6) hl hs).mono ?_
      rintro e w7 ⟨g7, rfl, o7, b7⟩
      have B7 := below_step B6 b7
      have o4 := o4.below b7
      have O5 := O5.below b7
      clear B6 b7
      go_wp2_with fail
      refine (eqIntSS_yes _ _ _ _ _ _ o4.iss o7.iss hl hs).mono ?_
      rintro e w8 ⟨rfl, d8⟩
      have B8 := below_step B7 d8.below
      have O5 := O5.below d8.below
      clear B7 d8 o4 o7
      go_wp2_with fail
      refine (toIntS_any _ _ _ _ (hb.below B8) hlb).mono ?_
      rintro e w9 ⟨g9, rfl, o9, b9⟩
      have B9 := below_step B8 b9
      have O5 := O5.below b9
      clear B8 b9
      go_wp2_with fail
      refine (eqIntS_yes _ _ _ _ _ _ O5 (IL.of_own o9).1 hlb).mono ?_
      rintro e w10 ⟨rfl, b10⟩
      have B10 := below_step B9 b10
      clear B9 b10 o9 O5
      go_wp2
      go_ret
      exact ⟨rfl, B10⟩
    · go_enter Try.func16, Try.ntmps16
      go_wp2_with fail
      refine (szIntSS_no _ _ 1048576 _ _ ha hm hms (Nat.le_refl _) hsz).mono ?_
      rintro e w' ⟨rfl, rfl⟩
      go_wp2
      go_ret
      exact ⟨rfl, Below.refl _ _⟩
  · go_enter Try.func16, Try.ntmps16
    go_wp2
    go_ret
    exact ⟨rfl, Below.refl _ _⟩
end Go.Proofs.Ytoomaiclbblcdaa
