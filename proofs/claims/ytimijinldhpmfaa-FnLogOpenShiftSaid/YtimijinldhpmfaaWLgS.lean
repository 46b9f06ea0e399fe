/- The walk of chapter 31's law on the open slots behind an append. -/
import Derived.Test.YtimijinldhpmfaaWLgO
namespace Go.Proofs.Ytimijinldhpmfaa
open Go.RowKit

theorem lopen_app {l : List En} {n : Int} {x : En} (h : okL l n = true) (hx : okE n x = true) (h2 : 0 < x.2) (hl : l.length ≠ 12) : lopen (l ++ [x]) n = [conf l ((l.length : Int) + 1), x.2] := by
  rw [lopen_two (okL_app h hx hl)]
  have e1 : ((l ++ [x]).length : Int) = (l.length : Int) + 1 := by simp
  rw [e1, conf_append x (by omega)]
  have e2 : conf (l ++ [x]) ((l.length : Int) + 1 + 1) = x.2 := by
    unfold conf
    rw [List.take_of_length_le (by simp), pre_app, pre1, if_pos h2]
  rw [e2]
set_option linter.unusedVariables false in
set_option maxRecDepth 100000 in
set_option maxHeartbeats 3200000 in
theorem walkLogOpenShift (A A' : Option Addr) (c c' : Nat) (l l' : List Int) (w : World) (ha : BL w A l) (hc : l.length ≤ c) (hm : l.length ≤ maxLen) (hmc : c ≤ maxLen) (ha' : BL w A' l') (hc' : l'.length ≤ c') (hm' : l'.length ≤ maxLen) (hmc' : c' ≤ maxLen) :
    Calls Try.prog 7 #[.slice A l.length c, .slice A' l'.length c'] w fun e w' => e = .returned (.bool true) ∧ Below w.heap.size w w' := by
  have hm1 := hm
  unfold maxLen at hm1
  have hm2 := hm'
  unfold maxLen at hm2
  by_cases hb : l.length ≤ 1048576 ∧ l'.length ≤ 1048576
  · have ez : decide (1048576 < (l.length : Int)) = false := by simp; omega
    have ez2 : decide (1048576 < (l'.length : Int)) = false := by simp; omega
    obtain ⟨hl, hl2⟩ := hb
    clear ha' hc' hm' hmc'
    go_enter Try.func7, Try.ntmps7
    go_wp2_with fail
    refine (dDrawLogOpen_any _ _ _ _ ha hc hm hmc).mono ?_
    rintro e w1 ⟨L, n, B, d, rfl, n1, n4, hL, D⟩
    obtain ⟨hE, hd, hdm, ⟨b, rfl⟩, b1⟩ := D
    clear ha hc hm hmc
    have LS := lopen_short L n
    obtain ⟨m, hm⟩ : ∃ m, m = lopen L n := ⟨_, rfl⟩
    rw [← hm] at LS
    have HM := Lib.hid hm
    clear hm
    go_wp2_with fail
    refine (iLogOpen_any _ _ _ _ _ hE (by omega)).mono ?_
    rw [← HM.out]
    rintro e w2 ⟨A2, c2, rfl, o2, b2⟩
    have hI := (IL.of_own o2).1
    have hA2 := own_some o2
    have hc2 := own_len o2
    have hE := hE.below b2
    have b2 := below_step b1 b2
    clear b1 o2
    go_wp2_with fail
    refine (sLogOpen_any _ _ _ _ _ hE (by omega)).mono ?_
    rw [← HM.out]
    rintro e w3 ⟨A3, c3, rfl, o3, b3⟩
    have hI3 := (IL.of_own o3).1
    have hI := hI.below b3
    have hE := hE.below b3
    have b3 := below_step b2 b3
    clear b2 o3
    go_wp2_with fail
    refine (sameInts_yes _ _ _ _ _ _ hI hI3 (by omega)).mono ?_
    rintro e w4 ⟨rfl, b4⟩
    have hI := hI.below b4
    have hE := hE.below b4
    have b4 := below_step b3 b4
    clear b3 hI3
    go_wp2_with fail
    refine (sLogValid_any _ _ _ _ _ hE (by omega)).mono ?_
    rintro e w5 ⟨rfl, b5⟩
    have hI := hI.below b5
    have hE := hE.below b5
    have b5 := below_step b4 b5
    clear b4
    by_cases hok : okL L n = true
    · rw [hok]
      have HO := Lib.hid hok
      have HM2 := HM.out.trans (lopen_two hok)
      clear hok HM
      subst HM2
      obtain ⟨g, rfl⟩ := hA2 (by simp)
      clear hA2 LS
      have hmod := mod_lt l'.length (m := n) (by omega)
      have HT := tmod_nat l'.length n
      obtain ⟨y, hy⟩ : ∃ y, y = (l'.length : Int) % n := ⟨_, rfl⟩
      rw [← hy] at hmod HT
      have hn0 : (n == 0) = false := by simp; omega
      have hn1 : ¬ n = 0 := by omega
      have hw : IntKind.i64.wrap (1 + y) = 1 + y := IntWalk.i64_in _ (by omega)
      have HY := Lib.hid (show okE n (0, 1 + y) = true from okE_change (by omega) (by omega))
      obtain ⟨p0, hp0⟩ : ∃ p, p = conf L L.length := ⟨_, rfl⟩
      obtain ⟨p1, hp1⟩ : ∃ p, p = conf L ((L.length : Int) + 1) := ⟨_, rfl⟩
      rw [← hp0, ← hp1] at hI
      rw [← hp0, ← hp1]
      have HP := Lib.hid hp1
      clear hy hp0 hp1
      simp only [List.length_cons, List.length_nil] at hc2 ⊢
      go_wp2_with fail
      refine (iLogAppend_any _ _ _ _ (0, 1 + y) _ hE (by omega)).mono ?_
      rintro e w6 ⟨A6, c6, rfl, o6, b6⟩
      have hI := hI.below b6
      have B6 := below_step b5 b6
      clear b5 b6 hE
      by_cases h12 : L.length = 12
      · have E := lapp_full HO.out HY.out h12
        have E2 := Lib.hid (congrArg Prod.snd E)
        simp only [E2.out]
        clear E o6 hI
        go_wp2
        go_ret
        exact ⟨by simp, B6⟩
      · have E := lapp_yes HO.out HY.out h12
        have E1 := Lib.hid (congrArg Prod.fst E)
        have E2 := Lib.hid (congrArg Prod.snd E)
        rw [E1.out] at o6
        rw [E1.out, E2.out]
        have EL := Lib.hid ((lopen_app HO.out HY.out (by show 0 < 1 + y; omega) h12).trans (by rw [← HP.out]))
        have hlen : (L ++ [((0, 1 + y) : En)]).length ≤ 13 := by simp; omega
        clear E E1 E2 h12 HP
        generalize L ++ [((0, 1 + y) : En)] = L2 at *
        go_wp2_with fail
        refine (iLogOpen_any _ _ _ _ _ o6.rd (by omega)).mono ?_
        rw [EL.out]
        rintro e w7 ⟨A7, c7, rfl, o7, b7⟩
        have hM := (IL.of_own o7).1
        obtain ⟨g7, rfl⟩ := own_some o7 (by simp)
        have hc7 := own_len o7
        simp only [List.length_cons, List.length_nil] at hc7 ⊢
        have hI := hI.below b7
        have B7 := below_step B6 b7
        clear B6 b7 o6 o7 EL
        have hk1 : (1 : Int) ≤ c7 := by omega
        have hk2 : (2 : Int) ≤ c2 := by omega
        have hk3 : ¬ c2 = 1 := by omega
        obtain ⟨X, hne, W, x0, h0, hWb, hW⟩ := fam_of w7
        have hcell : ∀ x, (W x).cell? ⟨g7, 1, none⟩ = some (.int .i64 (1 + y)) := fun x => (il_at (hM.below (hWb x)) (k := 1) (x := 1 + y) rfl).1
        have C : ∀ x, Calls Try.prog 24 #[.slice (some ⟨g7, 0, none⟩) 1 c7, .slice (some ⟨g, 1, none⟩) 1 (c2 - 1)] (W x) fun e w'' => e = .returned (.bool true) ∧ ∃ y, w'' = W y := fun x =>
          fam_calls hW (sameInts_yes (some ⟨g7, 0, none⟩) (some ⟨g, 1, none⟩) c7 (c2 - 1) [p1] (W x) (il_take (hM.below (hWb x)) 1) (il_drop (hI.below (hWb x)) 1) (by simp))
        have HC := Lib.hid C
        have HB := Lib.hid hWb
        clear hM hI C hWb hW
        go_wp2
        refine wp_region_fam W (by kernel_rfl) (by kernel_rfl) x0 h0 ?_
        repeat (go_big_quiet_step (first | (go_at_call 24; exact HC.out _) | fail))
        refine wpQuiet_nil ?_
        rintro _ ⟨x, rfl⟩
        have HB2 := Lib.hid (below_step B7 (HB.out x))
        clear B7 HB HC hcell
        go_wp2
        go_ret
        exact ⟨rfl, HB2.out⟩
    · rw [Bool.not_eq_true] at hok
      rw [hok]
      clear hok hA2 hc2
      go_wp2_with fail
      refine (sLogOpen_any _ _ _ _ _ hE (by omega)).mono ?_
      rw [← HM.out]
      rintro e w6 ⟨A6, c6, rfl, o6, b6⟩
      have hI6 := (IL.of_own o6).1
      have hI := hI.below b6
      have b6 := below_step b5 b6
      clear b5 o6 hE
      go_wp2_with fail
      refine (sameInts_yes _ _ _ _ _ _ hI hI6 (by omega)).mono ?_
      rintro e w7 ⟨rfl, b7⟩
      have b7 := below_step b6 b7
      clear b6 hI hI6
      go_wp2
      go_ret
      exact ⟨rfl, b7⟩
  · by_cases hl : l.length ≤ 1048576
    · have ez : decide (1048576 < (l.length : Int)) = false := by simp; omega
      have ez2 : decide (1048576 < (l'.length : Int)) = true := by simp; omega
      clear ha hc hm hmc hl hb ha' hc' hm' hmc'
      go_enter Try.func7, Try.ntmps7
      go_wp2
      go_ret
      exact ⟨rfl, Below.refl _ _⟩
    · have ez : decide (1048576 < (l.length : Int)) = true := by simp; omega
      clear ha hc hm hmc hl hb ha' hc' hm' hmc'
      go_enter Try.func7, Try.ntmps7
      go_wp2
      go_ret
      exact ⟨rfl, Below.refl _ _⟩

end Go.Proofs.Ytimijinldhpmfaa
