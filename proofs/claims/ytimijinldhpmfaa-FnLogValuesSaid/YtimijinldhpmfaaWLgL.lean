/- The walk of chapter 31's law on a log's values. -/
import Derived.Test.YtimijinldhpmfaaWLgA
namespace Go.Proofs.Ytimijinldhpmfaa
open Go.RowKit

theorem lvals_none {l : List En} {n : Int} (h : okL l n = false) : lvals l n = [] := by rw [lvals, if_neg (by simp [h])]
theorem lvals_short {l : List En} {n : Int} (h : l.length ≤ 8) : (lvals l n).length ≤ 8 := by
  unfold lvals
  split
  · exact Nat.le_trans (vals_len l) h
  · simp
theorem il_own {w : World} {base : Nat} {A : Option Addr} {c n : Nat} {l : List Int} (h : w.ownsRow base 3 1 (.slice A n c) n (l.map (Value.int .i64))) (hn : n ≠ 0) : ∃ b, A = some ⟨b, 0, none⟩ := own_some h hn
set_option maxRecDepth 100000 in
set_option maxHeartbeats 3200000 in
theorem walkLogValues (A : Option Addr) (c : Nat) (l : List Int) (w : World) (ha : BL w A l) (hc : l.length ≤ c) (hm : l.length ≤ maxLen) (hmc : c ≤ maxLen) :
    Calls Try.prog 9 #[.slice A l.length c] w fun e w' => e = .returned (.bool true) ∧ Below w.heap.size w w' := by
  have hm1 := hm
  unfold maxLen at hm1
  by_cases hl : l.length ≤ 1048576
  · have ez : decide (1048576 < (l.length : Int)) = false := by simp; omega
    go_enter Try.func9, Try.ntmps9
    go_wp2_with fail
    refine (dDrawLogValues_any _ _ _ _ ha hc hm hmc).mono ?_
    rintro e w1 ⟨L, n, B, d, rfl, n1, n4, hL, D⟩
    obtain ⟨hE, hd, hdm, ⟨b, rfl⟩, b1⟩ := D
    clear ha hc hm hmc
    have LS := lvals_short (n := n) hL
    obtain ⟨m, hm⟩ : ∃ m, m = lvals L n := ⟨_, rfl⟩
    rw [← hm] at LS
    have HM := Lib.hid hm
    clear hm
    go_wp2_with fail
    refine (iLogValues_any _ _ _ _ _ hE (by omega)).mono ?_
    rw [← HM.out]
    rintro e w2 ⟨A2, c2, rfl, o2, b2⟩
    have hI := (IL.of_own o2).1
    have hA2 := own_some o2
    have hc2 := own_len o2
    have hE := hE.below b2
    have b2 := below_step b1 b2
    clear b1 o2
    go_wp2_with fail
    refine (sLogValues_any _ _ _ _ _ hE (by omega)).mono ?_
    rw [← HM.out]
    rintro e w3 ⟨A3, c3, rfl, o3, b3⟩
    have hI3 := (IL.of_own o3).1
    have hI := hI.below b3
    have hE := hE.below b3
    have b3 := below_step b2 b3
    clear b2 o3
    go_wp2_with fail
    refine (sameInts_yes _ _ _ _ _ _ hI hI3 (by omega)).mono ?_
    rintro e w4 ⟨rfl, b4⟩
    have hI := hI.below b4
    have hE := hE.below b4
    have b4 := below_step b3 b4
    clear b3 hI3
    go_wp2_with fail
    refine (sLogValid_any _ _ _ _ _ hE (by omega)).mono ?_
    rintro e w5 ⟨rfl, b5⟩
    have hI := hI.below b5
    have hE := hE.below b5
    have b5 := below_step b4 b5
    clear b4
    by_cases hok : okL L n = true
    · rw [hok]
      have HA := Lib.hid ((okL_parts hok).1)
      have HM2 := HM.out.trans (lvals_yes hok)
      clear hok HM
      have HI := Lib.hid (And.intro hI (And.intro hE b5))
      have HV := Lib.hid HM2
      clear hI hE b5 HM2
      go_wp2
      go_loopw [6, 7] (fun kv iv wr => ∃ i : Nat, i ≤ L.length ∧ iv = .int .i64 i ∧ kv = .int .i64 ((vals (L.take i)).length) ∧ Below w5.heap.size w5 wr) (fun _ iv _ => L.length - (intOf iv).toNat)
      case atStart => exact ⟨0, Nat.zero_le _, rfl, rfl, Below.refl _ w5⟩
      case round =>
        obtain ⟨i, hi, rfl, rfl, hb⟩ := hrel
        by_cases hlt : i < L.length
        · obtain ⟨b', off, x, hAA, hx, c0, c1⟩ := (HI.out.2.1.below hb).at_ hlt
          injection hAA with hAA
          injection hAA with hAA hAA2
          subst hAA; subst hAA2
          rw [Nat.zero_add] at c0 c1
          have hki : (0 : Int) ≤ (i : Int) := by omega
          have hki2 : (i : Int) < (L.length : Int) := by omega
          have VT := vals_take hx
          have hok := okE_at HA.out hx
          obtain ⟨x0, x1⟩ := x
          simp only at c0 c1 VT
          by_cases hp : 0 < x1
          · have e1 : decide (0 < x1) = true := by simpa using hp
            rw [if_neg (by omega)] at VT
            have HT := Lib.hid VT
            clear VT hok hx hp
            go_wp2
            go_roundw
            case rel => exact ⟨i + 1, by omega, by go_num, by rw [HT.out], hb⟩
            case measure => simp [intOf]; omega
          · have e1 : decide (0 < x1) = false := by simpa using hp
            have hx1 : x1 = 0 := by
              rcases okE_cases hok with h | h
              · exact h.1
              · have := h.2.2.1; simp only at this; omega
            rw [if_pos hx1] at VT
            have HT := Lib.hid VT
            have hm : m[(vals (L.take i)).length]? = some x0 := by
              rw [HV.out]
              have h1 : vals L = vals (L.take (i + 1)) ++ vals (L.drop (i + 1)) := by
                unfold vals
                rw [← List.map_append, ← List.filter_append, List.take_append_drop]
              rw [h1, VT]
              simp
            have hkm : (vals (L.take i)).length < m.length := (List.getElem?_eq_some_iff.1 hm).1
            obtain ⟨g, rfl⟩ := hA2 (by omega)
            have hcell := (il_at (HI.out.1.below hb) hm).1
            obtain ⟨k, hk⟩ : ∃ k, k = (vals (L.take i)).length := ⟨_, rfl⟩
            rw [← hk] at hcell hkm ⊢
            have HK := Lib.hid hk
            have hk0 : (0 : Int) ≤ (k : Int) := by omega
            have hk1 : (k : Int) < (m.length : Int) := by omega
            have hk2 : decide ((m.length : Int) ≤ (k : Int)) = false := by simp; omega
            clear VT hok hx hp hm hk hx1
            go_wp2
            go_quiet (fail)
            have HB := Lib.hid (below_drewN hb nq)
            clear hb hcell c0 c1
            go_wp2
            go_roundw
            case rel => exact ⟨i + 1, by omega, by go_num, by rw [HT.out, List.length_append, ← HK.out]; simp, HB.out⟩
            case measure => simp [intOf]; omega
        · have hil : i = L.length := by omega
          subst hil
          have E := HV.out
          rw [List.take_length, ← E]
          go_wp2
          go_ret
          exact ⟨by simp, below_step HI.out.2.2 hb⟩
    · rw [Bool.not_eq_true] at hok
      rw [hok]
      clear hok hA2
      go_wp2_with fail
      refine (sLogValues_any _ _ _ _ _ hE (by omega)).mono ?_
      rw [← HM.out]
      rintro e w6 ⟨A6, c6, rfl, o6, b6⟩
      have hI6 := (IL.of_own o6).1
      have hI := hI.below b6
      have b6 := below_step b5 b6
      clear b5 o6 hE
      go_wp2_with fail
      refine (sameInts_yes _ _ _ _ _ _ hI hI6 (by omega)).mono ?_
      rintro e w7 ⟨rfl, b7⟩
      have b7 := below_step b6 b7
      clear b6 hI hI6
      go_wp2
      go_ret
      exact ⟨rfl, b7⟩
  · have ez : decide (1048576 < (l.length : Int)) = true := by simp; omega
    clear ha hc hm hmc hl
    go_enter Try.func9, Try.ntmps9
    go_wp2
    go_ret
    exact ⟨rfl, Below.refl _ _⟩

end Go.Proofs.Ytimijinldhpmfaa
