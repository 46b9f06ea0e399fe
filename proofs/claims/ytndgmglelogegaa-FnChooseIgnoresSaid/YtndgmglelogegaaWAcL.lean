/- The walks of the laws on chosen values. -/
import Derived.Test.YtndgmglelogegaaAcpN
import Derived.Test.YtndgmglelogegaaAcpK
namespace Go.Proofs.Ytndgmglelogegaa
open Go.RowKit

theorem best_next {l : List Ac} {own : Int} {k : Nat} {x0 x1 x2 : Int} (hx : l[k]? = some (x0, x1, x2)) : (if (st (l.take k) own).1 < x1 then x1 else (st (l.take k) own).1) = (st (l.take (k + 1)) own).1 := by
  rw [st_take hx, st1]
  by_cases h : (st (l.take k) own).1 < x1
  · rw [if_pos h, if_pos h]
  · rw [if_neg h, if_neg h]
/-- No reply ahead of the k-th has the highest ballot. -/
def NoneYet (l : List Ac) (k : Nat) (h : Int) : Prop := ∀ (j : Nat) (y : Ac), j < k → l[j]? = some y → y.2.1 ≠ h
theorem NoneYet.next {l : List Ac} {k : Nat} {h : Int} {x : Ac} (n : NoneYet l k h) (hx : l[k]? = some x) (hne : x.2.1 ≠ h) : NoneYet l (k + 1) h := by
  intro j y hj hy
  by_cases e : j = k
  · subst e; rw [hx] at hy; injection hy with hy; subst hy; exact hne
  · exact n j y (by omega) hy

set_option maxRecDepth 100000 in
set_option maxHeartbeats 3200000 in
theorem walkChoose (A : Option Addr) (c : Nat) (l0 : List Int) (w : World) (ha : BL w A l0) (hc : l0.length ≤ c) (hm : l0.length ≤ maxLen) (hmc : c ≤ maxLen) :
    Calls Try.prog 7 #[.slice A l0.length c] w fun e w' => e = .returned (.bool true) ∧ Below w.heap.size w w' := by
  have hm1 := hm
  unfold maxLen at hm1
  by_cases hl0 : l0.length ≤ 1048576
  · go_enter Try.func7, Try.ntmps7
    go_wp2_with fail
    refine (drawCh_any _ _ _ _ ha hc hm hmc).mono ?_
    rintro e w1 ⟨l, own, A1, c1, hl4, ho8, ho9, rfl, a1, B1, _⟩
    clear ha hm hc hmc
    obtain ⟨⟨r, t⟩, hr⟩ : ∃ r, r = chv l own := ⟨_, rfl⟩
    have HR := Lib.hid hr
    clear hr
    go_wp2_with fail
    refine (sChoose_any _ _ _ own _ a1 (by omega)).mono ?_
    rintro e w2 ⟨rfl, b2⟩
    rw [← HR.out]
    have a2 := a1.below b2
    have B2 := below_step B1 b2
    clear a1 B1 b2
    go_wp2_with fail
    refine (iChoose_any _ _ _ own _ a2 (by omega)).mono ?_
    rintro e w3 ⟨rfl, b3⟩
    rw [← HR.out]
    have a3 := a2.below b3
    have B3 := below_step B2 b3
    clear a2 B2 b3
    cases t with
    | false =>
      clear a3
      go_wp2
      go_ret
      exact ⟨rfl, B3⟩
    | true =>
      have HB := Lib.hid (best_st l own)
      obtain ⟨hA, _, hrv⟩ := chv_yes HR.out.symm
      have hpos := HB.out.pos
      have hle := best_le HB.out hA
      have HZ := Lib.hid (And.intro hrv hA)
      clear hrv hA
      go_wp2
      go_loopw [9, 10] (fun h i wr => ∃ k : Nat, k ≤ l.length ∧ i = .int .i64 k ∧ h = .int .i64 (st (l.take k) own).1 ∧ w3 = wr) (fun _ i _ => l.length - (intOf i).toNat)
      case atStart => exact ⟨0, Nat.zero_le _, rfl, rfl, rfl⟩
      case round =>
        obtain ⟨k, hk, rfl, rfl, rfl⟩ := hrel
        by_cases hlt : k < l.length
        · obtain ⟨b, off, x, rfl, hx, d0, d1, d2⟩ := a3.at_ hlt
          obtain ⟨x0, x1, x2⟩ := x
          have HT := Lib.hid (best_next (own := own) hx)
          have hki : (0 : Int) ≤ (k : Int) := by omega
          have hki2 : (k : Int) < (l.length : Int) := by omega
          clear hx
          generalize hh : (st (l.take k) own).1 = h at *
          go_wp2
          go_roundw
          case rel => exact ⟨k + 1, by omega, by go_num, by rw [← HT.out], trivial⟩
          case measure => simp [intOf]; omega
        · rw [st_all hk hlt]
          have hkl : k = l.length := by omega
          subst hkl
          generalize hh : (st l own).1 = h at *
          by_cases h0 : h = 0
          · have e0 : (h == 0) = true := by simpa using h0
            have e1 := HB.out.zero h0
            have e2 : (r == own) = true := by rw [HZ.out.1, e1]; simp
            clear e1 h0
            go_wp2
            go_ret
            exact ⟨by simp_all, B3⟩
          · have e0 : (h == 0) = false := by simpa using h0
            have h1 : 0 < h := by omega
            have H1 := Lib.hid h1
            clear h0 h1
            go_wp2
            go_loopw [11] (fun i wr => ∃ k : Nat, k ≤ l.length ∧ i = .int .i64 k ∧ Hid (NoneYet l k h) ∧ w3 = wr) (fun i _ => l.length - (intOf i).toNat)
            case atStart => exact ⟨0, Nat.zero_le _, rfl, (by show NoneYet l 0 h; intro j y hj; omega), rfl⟩
            case round =>
              obtain ⟨k, hk, rfl, hN, rfl⟩ := hrel
              by_cases hlt : k < l.length
              · obtain ⟨b, off, x, rfl, hx, d0, d1, d2⟩ := a3.at_ hlt
                have hki : (0 : Int) ≤ (k : Int) := by omega
                have hki2 : (k : Int) < (l.length : Int) := by omega
                have HX := Lib.hid hx
                clear hx
                obtain ⟨x0, x1, x2⟩ := x
                by_cases hq : x1 = h
                · have e1 : (x1 == h) = true := by simpa using hq
                  have e3 : x2 = (st l own).2 := best_at HB.out H1.out HX.out hq hN.out
                  have e2 : (r == x2) = true := by rw [HZ.out.1, e3]; simp
                  clear e3
                  clear hq
                  go_wp2
                  go_ret
                  exact ⟨by simp_all, B3⟩
                · have e1 : (x1 == h) = false := by simpa using hq
                  have HN := Lib.hid (hN.out.next HX.out hq)
                  clear hq hN
                  go_wp2
                  go_roundw
                  case rel => exact ⟨k + 1, by omega, by go_num, HN, trivial⟩
                  case measure => simp [intOf]; omega
              · exfalso
                have hkl : k = l.length := by omega
                subst hkl
                exact best_some HB.out H1.out hN.out
  · go_enter Try.func7, Try.ntmps7
    go_wp2
    go_ret
    exact ⟨rfl, Below.refl _ w⟩
end Go.Proofs.Ytndgmglelogegaa
