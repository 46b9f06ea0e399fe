/- The walks of the two laws on thresholds. -/
import Derived.Test.YtdfhglobfehpiaaDoorThrS
namespace Go.Proofs.YtdfhglobfehpiaaDoor
open Go.RowKit

/-- A drawn number and a drawn set. -/
def NumSet (w : World) (e : Ending) (w' : World) : Prop :=
  (∃ (k : Int) (l : List Int) (A : Option Addr) (c : Nat), 0 ≤ k ∧ k ≤ 6 ∧ l.length ≤ 7 ∧ e = .returned (.tuple #[.int .i64 k, .slice A l.length c]) ∧ IL w' A l) ∧ Below w.heap.size w w'
theorem rd_belowT {w w1 w2 : World} (h : Below w.heap.size w w1) (hg : w1.grownBy w2 (some w.heap.size)) : Below w.heap.size w w2 := h.grown hg h.size (fun k hk => by injection hk with hk; omega)
set_option maxRecDepth 100000 in
set_option maxHeartbeats 1600000 in
theorem drawThr_any (A : Option Addr) (c : Nat) (l : List Int) (w : World) (ha : BL w A l) (hc : l.length ≤ c) (hm : l.length ≤ maxLen) (hmc : c ≤ maxLen) :
    Calls Tryd.prog 9 #[.slice A l.length c] w (NumSet w) := by
  go_enter Tryd.func9, Tryd.ntmps9
  go_wp2_with fail
  refine (l6Open_any _ _ _ _ ha hc hm hmc).mono ?_
  rintro e w1 ⟨rfl, hr1, b1⟩
  go_wp2_with fail
  refine (pickX _ _ 7 _ hr1 (by omega) (by omega) (by omega)).mono ?_
  rintro e w2 ⟨k, k0, k1, rfl, hr2, g2⟩
  have B2 := rd_belowT b1 g2
  clear b1 g2 hr1 ha
  go_wp2_with fail
  refine (l91Set_any _ _ _ hr2 (by omega)).mono ?_
  rintro e w3 ⟨s, A3, c3, q3, hs7, rfl, o3, _, _, g3⟩
  have B3 := rd_belowT B2 g3
  have i3 := (IL.of_own o3).1
  clear B2 g3 o3 hr2
  go_wp2_with fail
  go_ret2
  exact ⟨⟨k, s, A3, c3, k0, by omega, hs7, rfl, i3⟩, B3⟩

theorem thr_dual {k : Int} {l : List Int} (h : thrOk k l = true) : dualX (thrX k l) = thrX ((l.length : Int) - k + 1) l ∧ thrOk ((l.length : Int) - k + 1) l = true := by
  have h' := h
  simp only [thrOk, Bool.and_eq_true, decide_eq_true_eq] at h'
  obtain ⟨⟨hv, h1⟩, h2⟩ := h'
  have h3 : thrOk ((l.length : Int) - k + 1) l = true := by simp [thrOk, hv]; omega
  refine ⟨?_, h3⟩
  obtain ⟨kn, rfl⟩ := Int.eq_ofNat_of_zero_le (show 0 ≤ k by omega)
  have hw := thr_wf (k := kn) hv (by omega) (by omega)
  have e1 : thrX (kn : Int) l = bx (.thr kn (mems l)) := by simp [thrX, h]
  have e2 : thrX ((l.length : Int) - (kn : Int) + 1) l = bx (.thr (l.length - kn + 1) (mems l)) := by
    simp only [thrX, h3, if_true]
    rw [show ((l.length : Int) - (kn : Int) + 1).toNat = l.length - kn + 1 by omega]
  have hp : pT0 (bx (.thr kn (mems l))) = some (.thr kn (mems l)) := by
    unfold pT0; rw [bx_list]; exact pX_tx hw.1 hw.2
  rw [e1, e2]
  simp only [dualX, hp, dual, mems_len, dualL_mems]

theorem tI (k : Int) (A : Option Addr) (c : Nat) (l : List Int) (w : World) (X : ByteArray) (b : Bool) (h1 : thrX k l = X) (h2 : thrOk k l = b) (ha : IL w A l) (hl : l.length ≤ 1048576) :
    Calls Tryd.prog 7 #[.int .i64 k, .slice A l.length c] w fun e w' => e = .returned (.tuple #[.string X, .bool b]) ∧ Below w.heap.size w w' := by
  rw [← h1, ← h2]; exact implThr k A c l w ha hl
theorem tS (k : Int) (A : Option Addr) (c : Nat) (l : List Int) (w : World) (X : ByteArray) (b : Bool) (h1 : thrX k l = X) (h2 : thrOk k l = b) (ha : IL w A l) (hl : l.length ≤ 1048576) :
    Calls Tryd.prog 5 #[.int .i64 k, .slice A l.length c] w fun e w' => e = .returned (.tuple #[.string X, .bool b]) ∧ Below w.heap.size w w' := by
  rw [← h1, ← h2]; exact specThr k A c l w ha hl
theorem tD (T : ByteArray) (w : World) (X : ByteArray) (h : dualX T = X) (hT : T.size ≤ 1048576) : Calls Tryd.prog 10 #[.string T] w fun e w' => e = .returned (.string X) ∧ Below w.heap.size w w' := by
  rw [← h]; exact implDualX T w hT

set_option maxRecDepth 100000 in
set_option maxHeartbeats 3200000 in
theorem walkThrDual (A : Option Addr) (c : Nat) (l : List Int) (w : World) (ha : BL w A l) (hc : l.length ≤ c) (hm : l.length ≤ maxLen) (hmc : c ≤ maxLen) :
    Calls Tryd.prog 4 #[.slice A l.length c] w fun e w' => e = .returned (.bool true) ∧ Below w.heap.size w w' := by
  have hm' := hm
  unfold maxLen at hm'
  by_cases hl : l.length ≤ 1048576
  · go_enter Tryd.func4, Tryd.ntmps4
    go_wp2_with fail
    refine (drawThr_any _ _ _ _ ha hc hm hmc).mono ?_
    rintro e w1 ⟨⟨k, s, AS, cS, hk0, hk6, hs, rfl, iS⟩, B1⟩
    clear ha hm
    have hs2 : s.length ≤ 1048576 := by omega
    obtain ⟨X, hX⟩ : ∃ X, thrX k s = X := ⟨_, rfl⟩
    have hXs : X.size ≤ 1048576 := by have := thrX_size k s; rw [hX] at this; omega
    cases hb : thrOk k s with
    | false =>
      have HX := Lib.hid (And.intro hX hb)
      clear hX hb
      go_wp2_with fail
      refine (tS k _ _ _ _ _ _ HX.out.1 HX.out.2 iS hs2).mono ?_
      rintro e w2 ⟨rfl, b2⟩
      have B2 := below_step B1 b2
      have iS := iS.below b2
      clear B1 b2
      go_wp2_with fail
      refine (tI k _ _ _ _ _ _ HX.out.1 HX.out.2 iS hs2).mono ?_
      rintro e w3 ⟨rfl, b3⟩
      have B3 := below_step B2 b3
      clear B2 b3 iS
      go_wp2_with fail
      go_ret
      exact ⟨rfl, B3⟩
    | true =>
      obtain ⟨d1, d2⟩ := thr_dual hb
      rw [hX] at d1
      have hb' := hb
      simp only [thrOk, Bool.and_eq_true, decide_eq_true_eq] at hb'
      obtain ⟨⟨_, hk1⟩, hk2⟩ := hb'
      obtain ⟨Y, hY⟩ : ∃ Y, thrX ((s.length : Int) - k + 1) s = Y := ⟨_, rfl⟩
      rw [hY] at d1
      have HX := Lib.hid (And.intro hX hb)
      have HY := Lib.hid (And.intro hY d2)
      have HD := Lib.hid d1
      clear hX hb hY d1 d2
      go_wp2_with fail
      refine (tS k _ _ _ _ _ _ HX.out.1 HX.out.2 iS hs2).mono ?_
      rintro e w2 ⟨rfl, b2⟩
      have B2 := below_step B1 b2
      have iS := iS.below b2
      clear B1 b2
      go_wp2_with fail
      refine (tI k _ _ _ _ _ _ HX.out.1 HX.out.2 iS hs2).mono ?_
      rintro e w3 ⟨rfl, b3⟩
      have B3 := below_step B2 b3
      have iS := iS.below b3
      clear B2 b3
      go_wp2_with fail
      refine (tI _ _ _ _ _ _ _ HY.out.1 HY.out.2 iS hs2).mono ?_
      rintro e w4 ⟨rfl, b4⟩
      have B4 := below_step B3 b4
      clear B3 b4 iS
      go_wp2_with fail
      refine (tD X _ _ HD.out hXs).mono ?_
      rintro e w5 ⟨rfl, b5⟩
      have B5 := below_step B4 b5
      clear B4 b5
      go_wp2_with fail
      go_ret
      exact ⟨rfl, B5⟩
  · go_enter Tryd.func4, Tryd.ntmps4
    go_wp2_with fail
    go_ret
    exact ⟨rfl, Below.refl _ _⟩

set_option maxRecDepth 100000 in
set_option maxHeartbeats 3200000 in
theorem walkThrE (k : Int) (A : Option Addr) (c : Nat) (l : List Int) (w : World) (ha : IL w A l) (hm : l.length ≤ maxLen) :
    Calls Tryd.prog 3 #[.int .i64 k, .slice A l.length c] w fun e w' => e = .returned (.bool true) ∧ Below w.heap.size w w' := by
  unfold maxLen at hm
  by_cases hl : l.length ≤ 1048576
  · go_enter Tryd.func3, Tryd.ntmps3
    go_wp2_with fail
    refine (toIntS_any _ _ _ _ ha hl).mono ?_
    rintro e w1 ⟨g1, rfl, o1, b1⟩
    go_wp2_with fail
    refine (specThr k _ _ _ _ (IL.of_own o1).1 hl).mono ?_
    rintro e w2 ⟨rfl, b2⟩
    have b2' := below_step b1 b2
    clear o1 b1 b2
    go_wp2_with fail
    refine (toIntS_any _ _ _ _ (ha.below b2') hl).mono ?_
    rintro e w3 ⟨g3, rfl, o3, b3⟩
    have b3' := below_step b2' b3
    have i3 := (IL.of_own o3).1
    clear b3 o3
    go_wp2_with fail
    refine (implThr k _ _ _ _ i3 hl).mono ?_
    rintro e w4 ⟨rfl, b4⟩
    have i4 := i3.below b4
    have b4' := below_step b3' b4
    clear i3 b4
    generalize thrX k l = X at *
    generalize thrOk k l = R at *
    have hRR : (R != R) = false := by simp
    go_wp2_with fail
    refine (toIntS_any _ _ _ _ (ha.below b4') hl).mono ?_
    rintro e w5 ⟨g5, rfl, o5, b5⟩
    go_wp2_with fail
    refine (eqIntS_yes _ _ _ _ _ _ (i4.below b5) (IL.of_own o5).1 hl).mono ?_
    rintro e w6 ⟨rfl, b6⟩
    have b6' := below_step (below_step b4' b5) b6
    clear i4 o5 b5 b6
    go_wp2
    go_ret
    exact ⟨rfl, b6'⟩
  · go_enter Tryd.func3, Tryd.ntmps3
    go_wp2_with fail
    go_ret
    exact ⟨rfl, Below.refl _ _⟩
end Go.Proofs.YtdfhglobfehpiaaDoor
