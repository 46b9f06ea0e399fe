/- The walks of chapter 31's laws on configurations. -/
import Derived.Test.YtimijinldhpmfaaLgT
import Derived.Test.YtimijinldhpmfaaLgE
import Derived.Test.YtimijinldhpmfaaDraw2
namespace Go.Proofs.Ytimijinldhpmfaa
open Go.RowKit

theorem lconf_ne {l : List En} {n s : Int} (h : lconf l n s ≠ 0) : okL l n = true ∧ 0 ≤ s ∧ s ≤ (l.length : Int) + 1 ∧ lconf l n s = conf l s := by
  unfold lconf at h ⊢
  split at h
  · next h1 => exact ⟨h1.1, h1.2.1, h1.2.2, by rw [if_pos h1]⟩
  · exact absurd rfl h
theorem conf_none (l : List En) {s : Int} (h : s ≤ 1) : conf l s = 1 := by
  unfold conf
  rw [show (s - 1).toNat = 0 by omega]
  rfl
theorem conf_at {l : List En} {s : Int} {k : Nat} {x : En} (hs : s = (k : Int) + 2) (hx : l[k]? = some x) : conf l s = pre1 (conf l (s - 1)) x := by
  subst hs
  unfold conf
  rw [show ((k : Int) + 2 - 1).toNat = k + 1 by omega, show ((k : Int) + 2 - 1 - 1).toNat = k by omega]
  exact pre_take hx
theorem conf_over {l : List En} {s : Int} (hs : (l.length : Int) + 2 ≤ s) : conf l s = conf l (s - 1) := by
  unfold conf
  rw [List.take_of_length_le (by omega), List.take_of_length_le (by omega)]
theorem conf_step {l : List En} {s : Int} {k : Nat} {x : En} (hx : l[k]? = some x) : conf (l.take (k + 1)) s = if (k : Int) ≤ s - 2 then pre1 (conf (l.take k) s) x else conf (l.take k) s := by
  have hk : k < l.length := (List.getElem?_eq_some_iff.1 hx).1
  unfold conf
  rw [List.take_take, List.take_take]
  split
  · rw [Nat.min_eq_right (by omega), Nat.min_eq_right (by omega)]
    exact pre_take hx
  · rw [Nat.min_eq_left (by omega), Nat.min_eq_left (by omega)]
theorem conf_append {l : List En} {s : Int} (x : En) (hs : s ≤ (l.length : Int) + 1) : conf (l ++ [x]) s = conf l s := by
  unfold conf
  rw [List.take_append_of_le_length (by omega)]
theorem okL_app {l : List En} {n : Int} {x : En} (h : okL l n = true) (hx : okE n x = true) (hl : l.length ≠ 12) : okL (l ++ [x]) n = true := by
  obtain ⟨h1, h2, h3⟩ := okL_parts h
  refine okL_yes ?_ h2 (by simp; omega)
  rw [allE_app, h1]
  simp [allE, hx]
theorem okL_take {l : List En} {n : Int} (k : Nat) (h : okL l n = true) : okL (l.take k) n = true := by
  obtain ⟨h1, h2, h3⟩ := okL_parts h
  refine okL_yes ?_ h2 (by simp; omega)
  rw [allE, List.all_eq_true] at h1 ⊢
  exact fun x hx => h1 x (List.mem_of_mem_take hx)
theorem okE_change {n m : Int} (h0 : 1 ≤ m) (h1 : m ≤ n) : okE n (0, m) = true := by
  rw [okE_chg (by omega)]
  simp
  omega
theorem lconf_app {l : List En} {n s : Int} {x : En} (h : okL l n = true) (hx : okE n x = true) (hl : l.length ≠ 12) (h0 : 0 ≤ s) (h1 : s ≤ (l.length : Int) + 1) : lconf (l ++ [x]) n s = conf l s := by
  rw [lconf, if_pos ⟨okL_app h hx hl, h0, by simp; omega⟩, conf_append x h1]
theorem mod_lt (x : Nat) {m : Int} (h : 0 < m) : 0 ≤ (x : Int) % m ∧ (x : Int) % m < m := ⟨Int.emod_nonneg _ (by omega), Int.emod_lt_of_pos _ h⟩
theorem tmod_nat (x : Nat) (m : Int) : (x : Int).tmod m = (x : Int) % m := Int.tmod_eq_emod_of_nonneg (Int.natCast_nonneg x)

set_option maxRecDepth 100000 in
set_option maxHeartbeats 3200000 in
theorem walkLogConf (A : Option Addr) (c : Nat) (l : List Int) (w : World) (ha : BL w A l) (hc : l.length ≤ c) (hm : l.length ≤ maxLen) (hmc : c ≤ maxLen) :
    Calls Try.prog 3 #[.slice A l.length c] w fun e w' => e = .returned (.bool true) ∧ Below w.heap.size w w' := by
  have hm1 := hm
  unfold maxLen at hm1
  by_cases hl : l.length ≤ 1048576
  · have ez : decide (1048576 < (l.length : Int)) = false := by simp; omega
    go_enter Try.func3, Try.ntmps3
    go_wp2_with fail
    refine (dDrawLogConfig_any _ _ _ _ ha hc hm hmc).mono ?_
    rintro e w1 ⟨L, n, s, B, d, rfl, n1, n4, hL, s1, s2, D⟩
    obtain ⟨hE, hd, hdm, ⟨b, rfl⟩, b1⟩ := D
    clear ha hc hm hmc
    obtain ⟨r, hr⟩ : ∃ r, r = lconf L n s := ⟨_, rfl⟩
    have HR := Lib.hid hr
    clear hr
    go_wp2_with fail
    refine (iLogConfig_any _ _ _ _ _ _ hE (by omega)).mono ?_
    rintro e w2 ⟨rfl, b2⟩
    rw [← HR.out]
    have hE := hE.below b2
    have b2 := below_step b1 b2
    clear b1
    go_wp2_with fail
    refine (sLogConfig_any _ _ _ _ _ _ hE (by omega)).mono ?_
    rintro e w3 ⟨rfl, b3⟩
    rw [← HR.out]
    have hE := hE.below b3
    have b3 := below_step b2 b3
    clear b2
    by_cases h0 : r = 0
    · subst h0
      go_wp2_with fail
      refine (sLogConfig_any _ _ _ _ _ _ hE (by omega)).mono ?_
      rintro e w4 ⟨rfl, b4⟩
      rw [← HR.out]
      have b4 := below_step b3 b4
      clear b3 hE
      go_wp2
      go_ret
      exact ⟨rfl, b4⟩
    · have er : (r == 0) = false := by simpa using h0
      obtain ⟨hok, h0s, hs1, hrc⟩ := lconf_ne (by rw [← HR.out]; exact h0)
      have HC := Lib.hid (HR.out.trans hrc)
      have HO := Lib.hid hok
      have HN := Lib.hid (okN_iff.1 (okL_parts hok).2.1)
      clear hok hrc h0
      have B3 := Lib.hid b3
      clear b3
      go_wp2
      go_loopw [7, 8] (fun v i wr => ∃ k : Nat, k ≤ L.length ∧ i = .int .i64 k ∧ v = .int .i64 (conf (L.take k) s) ∧ w3 = wr) (fun _ i _ => L.length - (intOf i).toNat)
      case atStart => exact ⟨0, Nat.zero_le _, rfl, by simp [conf, pre], rfl⟩
      case round =>
        obtain ⟨k, hk, rfl, rfl, rfl⟩ := hrel
        by_cases hlt : k < L.length
        · obtain ⟨b', off, x, hA, hx, c0, c1⟩ := hE.at_ hlt
          injection hA with hA
          injection hA with hA hA2
          subst hA; subst hA2
          rw [Nat.zero_add] at c0 c1
          have HX := Lib.hid (conf_step (s := s) hx)
          obtain ⟨x0, x1⟩ := x
          simp only at c0 c1
          have hki : (0 : Int) ≤ (k : Int) := by omega
          have hki2 : (k : Int) < (L.length : Int) := by omega
          clear hx
          obtain ⟨p, hp⟩ : ∃ p, p = conf (L.take k) s := ⟨_, rfl⟩
          rw [← hp]
          by_cases hs : (k : Int) ≤ s - 2
          · have e1 : decide ((k : Int) ≤ s - 2) = true := by simpa using hs
            by_cases hp0 : 0 < x1
            · have e2 : decide (0 < x1) = true := by simpa using hp0
              have E := Lib.hid (show conf (L.take (k + 1)) s = x1 by rw [HX.out, if_pos hs, pre1, if_pos hp0])
              clear HX hp hs hp0
              go_wp2
              go_roundw
              case rel => exact ⟨k + 1, by omega, by go_num, by rw [E.out], trivial⟩
              case measure => simp [intOf]; omega
            · have e2 : decide (0 < x1) = false := by simpa using hp0
              have E := Lib.hid (show conf (L.take (k + 1)) s = p by rw [HX.out, if_pos hs, pre1, if_neg hp0, ← hp])
              clear HX hp hs hp0
              go_wp2
              go_roundw
              case rel => exact ⟨k + 1, by omega, by go_num, by rw [E.out], trivial⟩
              case measure => simp [intOf]; omega
          · have e1 : decide ((k : Int) ≤ s - 2) = false := by simpa using hs
            have E := Lib.hid (show conf (L.take (k + 1)) s = p by rw [HX.out, if_neg hs, ← hp])
            clear HX hp hs
            go_wp2
            go_roundw
            case rel => exact ⟨k + 1, by omega, by go_num, by rw [E.out], trivial⟩
            case measure => simp [intOf]; omega
        · have hkl : k = L.length := by omega
          subst hkl
          rw [List.take_length, ← HC.out]
          clear hE
          go_wp2
          go_ret
          exact ⟨by simp, B3.out⟩
  · have ez : decide (1048576 < (l.length : Int)) = true := by simp; omega
    clear ha hc hm hmc hl
    go_enter Try.func3, Try.ntmps3
    go_wp2
    go_ret
    exact ⟨rfl, Below.refl _ _⟩

set_option linter.unusedVariables false in
set_option maxRecDepth 100000 in
set_option maxHeartbeats 3200000 in
theorem walkLogStable (A A' : Option Addr) (c c' : Nat) (l l' : List Int) (w : World) (ha : BL w A l) (hc : l.length ≤ c) (hm : l.length ≤ maxLen) (hmc : c ≤ maxLen) (ha' : BL w A' l') (hc' : l'.length ≤ c') (hm' : l'.length ≤ maxLen) (hmc' : c' ≤ maxLen) :
    Calls Try.prog 4 #[.slice A l.length c, .slice A' l'.length c'] w fun e w' => e = .returned (.bool true) ∧ Below w.heap.size w w' := by
  have hm1 := hm
  unfold maxLen at hm1
  have hm2 := hm'
  unfold maxLen at hm2
  by_cases hb : l.length ≤ 1048576 ∧ l'.length ≤ 1048576
  · have ez : decide (1048576 < (l.length : Int)) = false := by simp; omega
    have ez2 : decide (1048576 < (l'.length : Int)) = false := by simp; omega
    obtain ⟨hl, hl2⟩ := hb
    clear ha' hc' hm' hmc'
    go_enter Try.func4, Try.ntmps4
    go_wp2_with fail
    refine (dDrawLogConfig_any _ _ _ _ ha hc hm hmc).mono ?_
    rintro e w1 ⟨L, n, s, B, d, rfl, n1, n4, hL, s1, s2, D⟩
    obtain ⟨hE, hd, hdm, ⟨b, rfl⟩, b1⟩ := D
    clear ha hc hm hmc
    obtain ⟨r, hr⟩ : ∃ r, r = lconf L n s := ⟨_, rfl⟩
    have HR := Lib.hid hr
    clear hr
    go_wp2_with fail
    refine (iLogConfig_any _ _ _ _ _ _ hE (by omega)).mono ?_
    rintro e w2 ⟨rfl, b2⟩
    rw [← HR.out]
    have hE := hE.below b2
    have b2 := below_step b1 b2
    clear b1
    go_wp2_with fail
    refine (sLogConfig_any _ _ _ _ _ _ hE (by omega)).mono ?_
    rintro e w3 ⟨rfl, b3⟩
    rw [← HR.out]
    have hE := hE.below b3
    have b3 := below_step b2 b3
    clear b2
    by_cases h0 : r = 0
    · subst h0
      go_wp2_with fail
      refine (sLogConfig_any _ _ _ _ _ _ hE (by omega)).mono ?_
      rintro e w4 ⟨rfl, b4⟩
      rw [← HR.out]
      have b4 := below_step b3 b4
      clear b3 hE
      go_wp2
      go_ret
      exact ⟨rfl, b4⟩
    · have er : (r == 0) = false := by simpa using h0
      obtain ⟨hok, h0s, hs1, hrc⟩ := lconf_ne (by rw [← HR.out]; exact h0)
      have HC := Lib.hid (HR.out.trans hrc)
      have HO := Lib.hid hok
      have HN := Lib.hid (okN_iff.1 (okL_parts hok).2.1)
      clear hok hrc h0
      have hmod := mod_lt l'.length (m := n) (by omega)
      have HT := tmod_nat l'.length n
      obtain ⟨y, hy⟩ : ∃ y, y = (l'.length : Int) % n := ⟨_, rfl⟩
      rw [← hy] at hmod HT
      have hn0 : (n == 0) = false := by simp; omega
      have N := Lib.hid (AFEn.new w3 (0, 1 + y) 28)
      have B4 := b3.alloc b3.size (.cells #[.int .i64 0, .int .i64 (1 + y)] 28)
      have hE := hE.below ((Below.refl _ w3).alloc (Nat.le_refl _) (.cells #[.int .i64 0, .int .i64 (1 + y)] 28))
      have hyn : okE n (0, 1 + y) = true := okE_change (by omega) (by omega)
      have HY := Lib.hid hyn
      clear b3 hyn hy
      go_wp2_with fail
      refine (iLogAppend_any _ _ _ _ (0, 1 + y) _ hE (by omega)).mono ?_
      rintro e w5 ⟨A5, c5, rfl, o5, b5⟩
      have B5 := below_step B4 b5
      clear B4 b5 hE
      by_cases h12 : L.length = 12
      · have E := lapp_full HO.out HY.out h12
        have E1 := Lib.hid (congrArg Prod.fst E)
        have E2 := Lib.hid (congrArg Prod.snd E)
        simp only [E2.out]
        clear E o5
        go_wp2
        go_ret
        exact ⟨rfl, B5⟩
      · have E := lapp_yes HO.out HY.out h12
        have E1 := Lib.hid (congrArg Prod.fst E)
        have E2 := Lib.hid (congrArg Prod.snd E)
        rw [E1.out] at o5
        rw [E1.out, E2.out]
        have EC := Lib.hid (lconf_app HO.out HY.out h12 h0s hs1)
        have hlen : (L ++ [((0, 1 + y) : En)]).length ≤ 13 := by simp; omega
        clear E E1 E2 h12
        generalize L ++ [((0, 1 + y) : En)] = L2 at *
        go_wp2_with fail
        refine (iLogConfig_any _ _ _ _ _ _ o5.rd (by omega)).mono ?_
        rintro e w6 ⟨rfl, b6⟩
        rw [EC.out, ← HC.out]
        have B6 := below_step B5 b6
        clear B5 b6 o5
        go_wp2
        go_ret
        exact ⟨by simp, B6⟩
  · by_cases hl : l.length ≤ 1048576
    · have ez : decide (1048576 < (l.length : Int)) = false := by simp; omega
      have ez2 : decide (1048576 < (l'.length : Int)) = true := by simp; omega
      clear ha hc hm hmc hl hb ha' hc' hm' hmc'
      go_enter Try.func4, Try.ntmps4
      go_wp2
      go_ret
      exact ⟨rfl, Below.refl _ _⟩
    · have ez : decide (1048576 < (l.length : Int)) = true := by simp; omega
      clear ha hc hm hmc hl hb ha' hc' hm' hmc'
      go_enter Try.func4, Try.ntmps4
      go_wp2
      go_ret
      exact ⟨rfl, Below.refl _ _⟩

set_option maxRecDepth 100000 in
set_option maxHeartbeats 3200000 in
theorem walkLogSteps (A : Option Addr) (c : Nat) (l : List Int) (w : World) (ha : BL w A l) (hc : l.length ≤ c) (hm : l.length ≤ maxLen) (hmc : c ≤ maxLen) :
    Calls Try.prog 12 #[.slice A l.length c] w fun e w' => e = .returned (.bool true) ∧ Below w.heap.size w w' := by
  have hm1 := hm
  unfold maxLen at hm1
  by_cases hl : l.length ≤ 1048576
  · have ez : decide (1048576 < (l.length : Int)) = false := by simp; omega
    go_enter Try.func12, Try.ntmps12
    go_wp2_with fail
    refine (dDrawLogConfig_any _ _ _ _ ha hc hm hmc).mono ?_
    rintro e w1 ⟨L, n, s, B, d, rfl, n1, n4, hL, s1, s2, D⟩
    obtain ⟨hE, hd, hdm, ⟨b, rfl⟩, b1⟩ := D
    clear ha hc hm hmc
    obtain ⟨r, hr⟩ : ∃ r, r = lconf L n s := ⟨_, rfl⟩
    have HR := Lib.hid hr
    clear hr
    go_wp2_with fail
    refine (iLogConfig_any _ _ _ _ _ _ hE (by omega)).mono ?_
    rintro e w2 ⟨rfl, b2⟩
    rw [← HR.out]
    have hE := hE.below b2
    have b2 := below_step b1 b2
    clear b1
    go_wp2_with fail
    refine (sLogConfig_any _ _ _ _ _ _ hE (by omega)).mono ?_
    rintro e w3 ⟨rfl, b3⟩
    rw [← HR.out]
    have hE := hE.below b3
    have b3 := below_step b2 b3
    clear b2
    by_cases h0 : r = 0
    · subst h0
      go_wp2_with fail
      refine (sLogConfig_any _ _ _ _ _ _ hE (by omega)).mono ?_
      rintro e w4 ⟨rfl, b4⟩
      rw [← HR.out]
      have b4 := below_step b3 b4
      clear b3 hE
      go_wp2
      go_ret
      exact ⟨rfl, b4⟩
    · have er : (r == 0) = false := by simpa using h0
      obtain ⟨hok, h0s, hs1, hrc⟩ := lconf_ne (by rw [← HR.out]; exact h0)
      have HC := Lib.hid (HR.out.trans hrc)
      have HO := Lib.hid hok
      have HN := Lib.hid (okN_iff.1 (okL_parts hok).2.1)
      clear hok hrc h0
      by_cases hz : s = 0
      · subst hz
        have E := Lib.hid (HC.out.trans (conf_none L (by omega)))
        clear hE HR HC HO HN
        go_wp2
        go_ret
        exact ⟨by simp [E.out], b3⟩
      · have ez0 : (s == 0) = false := by simpa using hz
        have EP := Lib.hid (show lconf L n (s - 1) = conf L (s - 1) from by rw [lconf, if_pos ⟨HO.out, by omega, by omega⟩])
        go_wp2_with fail
        refine (iLogConfig_any _ _ _ _ _ _ hE (by omega)).mono ?_
        rintro e w4 ⟨rfl, b4⟩
        rw [EP.out]
        have hE := hE.below b4
        have B4 := Lib.hid (below_step b3 b4)
        clear b3 b4 EP
        by_cases h2 : 2 ≤ s
        · obtain ⟨k, hk⟩ : ∃ k : Nat, s - 2 = (k : Int) := ⟨(s - 2).toNat, by omega⟩
          have hlt : k < L.length := by omega
          obtain ⟨b', off, x, hA, hx, c0, c1⟩ := hE.at_ hlt
          injection hA with hA
          injection hA with hA hA2
          subst hA; subst hA2
          rw [Nat.zero_add] at c0 c1
          have HX := Lib.hid (HC.out.trans (conf_at (show s = (k : Int) + 2 by omega) hx))
          obtain ⟨x0, x1⟩ := x
          simp only at c0 c1
          have hki : (0 : Int) ≤ (k : Int) := by omega
          have hki2 : (k : Int) < (L.length : Int) := by omega
          obtain ⟨p, hp⟩ : ∃ p, p = conf L (s - 1) := ⟨_, rfl⟩
          rw [← hp]
          rw [← hp] at HX
          clear hx h2 hp HC HR hE
          by_cases hp0 : 0 < x1
          · have e2 : decide (0 < x1) = true := by simpa using hp0
            have E := Lib.hid (show r = x1 by rw [HX.out, pre1, if_pos hp0])
            clear HX hp0
            go_wp2
            go_ret
            exact ⟨by simp [E.out], B4.out⟩
          · have e2 : decide (0 < x1) = false := by simpa using hp0
            have E := Lib.hid (show r = p by rw [HX.out, pre1, if_neg hp0])
            clear HX hp0
            go_wp2
            go_ret
            exact ⟨by simp [E.out], B4.out⟩
        · have hk : s - 2 = -1 := by omega
          have E := Lib.hid (show r = conf L (s - 1) by rw [HC.out, conf_none L (show s ≤ 1 by omega), conf_none L (show s - 1 ≤ 1 by omega)])
          obtain ⟨p, hp⟩ : ∃ p, p = conf L (s - 1) := ⟨_, rfl⟩
          rw [← hp]
          rw [← hp] at E
          clear hp HC HR hE
          go_wp2
          go_ret
          exact ⟨by simp [E.out], B4.out⟩
  · have ez : decide (1048576 < (l.length : Int)) = true := by simp; omega
    clear ha hc hm hmc hl
    go_enter Try.func12, Try.ntmps12
    go_wp2
    go_ret
    exact ⟨rfl, Below.refl _ _⟩

theorem lconf_prefix {l : List En} {n s m : Int} {k : Nat} (h : okL l n = true) (h0 : 0 ≤ s) (hk : max (min (s - 2 + 1) (l.length : Int)) 0 = (k : Int)) (hm : min s ((k : Int) + 2 - 1) = m) (hs : s ≤ (k : Int) + 2 - 1) : lconf (l.take k) n m = conf l s := by
  have hms : m = s := by omega
  subst hms
  have hkl : k ≤ l.length := by omega
  rw [lconf, if_pos ⟨okL_take k h, by omega, by rw [List.length_take, Nat.min_eq_left hkl]; omega⟩]
  unfold conf
  rw [List.take_take, Nat.min_eq_left (by omega)]
set_option maxRecDepth 100000 in
set_option maxHeartbeats 3200000 in
theorem walkLogPrefix (A : Option Addr) (c : Nat) (l : List Int) (w : World) (ha : BL w A l) (hc : l.length ≤ c) (hm : l.length ≤ maxLen) (hmc : c ≤ maxLen) :
    Calls Try.prog 5 #[.slice A l.length c] w fun e w' => e = .returned (.bool true) ∧ Below w.heap.size w w' := by
  have hm1 := hm
  unfold maxLen at hm1
  by_cases hl : l.length ≤ 1048576
  · have ez : decide (1048576 < (l.length : Int)) = false := by simp; omega
    go_enter Try.func5, Try.ntmps5
    go_wp2_with fail
    refine (dDrawLogConfig_any _ _ _ _ ha hc hm hmc).mono ?_
    rintro e w1 ⟨L, n, s, B, d, rfl, n1, n4, hL, s1, s2, D⟩
    obtain ⟨hE, hd, hdm, ⟨b, rfl⟩, b1⟩ := D
    clear ha hc hm hmc
    obtain ⟨r, hr⟩ : ∃ r, r = lconf L n s := ⟨_, rfl⟩
    have HR := Lib.hid hr
    clear hr
    go_wp2_with fail
    refine (iLogConfig_any _ _ _ _ _ _ hE (by omega)).mono ?_
    rintro e w2 ⟨rfl, b2⟩
    rw [← HR.out]
    have hE := hE.below b2
    have b2 := below_step b1 b2
    clear b1
    go_wp2_with fail
    refine (sLogConfig_any _ _ _ _ _ _ hE (by omega)).mono ?_
    rintro e w3 ⟨rfl, b3⟩
    rw [← HR.out]
    have hE := hE.below b3
    have b3 := below_step b2 b3
    clear b2
    by_cases h0 : r = 0
    · subst h0
      go_wp2_with fail
      refine (sLogConfig_any _ _ _ _ _ _ hE (by omega)).mono ?_
      rintro e w4 ⟨rfl, b4⟩
      rw [← HR.out]
      have b4 := below_step b3 b4
      clear b3 hE
      go_wp2
      go_ret
      exact ⟨rfl, b4⟩
    · have er : (r == 0) = false := by simpa using h0
      obtain ⟨hok, h0s, hs1, hrc⟩ := lconf_ne (by rw [← HR.out]; exact h0)
      have HC := Lib.hid (HR.out.trans hrc)
      have HO := Lib.hid hok
      have HN := Lib.hid (okN_iff.1 (okL_parts hok).2.1)
      clear hok hrc h0
      have B3 := Lib.hid b3
      clear b3
      by_cases hz : s = 0
      · subst hz
        have T := iLogConfig_any (some ⟨b, 0, none⟩) d (L.take 0) n 0 w3 hE.take (by simp)
        rw [List.length_take, Nat.min_eq_left (Nat.zero_le _)] at T
        have E := Lib.hid ((lconf_prefix (m := 0) (k := 0) HO.out (Int.le_refl _) (by omega) (by omega) (by omega)).trans HC.out.symm)
        rw [E.out] at T
        clear hE HR HC HO HN E
        go_wp2_with fail
        refine T.mono ?_
        rintro e w4 ⟨rfl, b4⟩
        have B4 := Lib.hid (below_step B3.out b4)
        clear b4 T
        go_wp2
        go_ret
        exact ⟨by simp, B4.out⟩
      · obtain ⟨k, hk⟩ : ∃ k : Nat, s - 2 + 1 = (k : Int) := ⟨(s - 2 + 1).toNat, by omega⟩
        have hkl : k ≤ L.length := by omega
        have T := iLogConfig_any (some ⟨b, 0, none⟩) d (L.take k) n s w3 hE.take (by simp; omega)
        rw [List.length_take, Nat.min_eq_left hkl] at T
        have E := Lib.hid ((lconf_prefix (m := s) (k := k) HO.out h0s (by omega) (by omega) (by omega)).trans HC.out.symm)
        rw [E.out] at T
        clear hE HR HC HO HN E
        go_wp2_with fail
        refine T.mono ?_
        rintro e w4 ⟨rfl, b4⟩
        have B4 := Lib.hid (below_step B3.out b4)
        clear b4 T
        go_wp2
        go_ret
        exact ⟨by simp, B4.out⟩
  · have ez : decide (1048576 < (l.length : Int)) = true := by simp; omega
    clear ha hc hm hmc hl
    go_enter Try.func5, Try.ntmps5
    go_wp2
    go_ret
    exact ⟨rfl, Below.refl _ _⟩

end Go.Proofs.Ytimijinldhpmfaa
