/- The walk of the law on blocked ballots. -/
import Derived.Test.YtndgmglelogegaaWAcP
namespace Go.Proofs.Ytndgmglelogegaa
open Go.RowKit

set_option maxRecDepth 100000 in
set_option maxHeartbeats 3200000 in
theorem walkBlocks (A : Option Addr) (c : Nat) (l : List Int) (w : World) (ha : BL w A l) (hc : l.length ≤ c) (hm : l.length ≤ maxLen) (hmc : c ≤ maxLen) :
    Calls Try.prog 6 #[.slice A l.length c] w fun e w' => e = .returned (.bool true) ∧ Below w.heap.size w w' := by
  have hm1 := hm
  unfold maxLen at hm1
  by_cases hl : l.length ≤ 1048576
  · go_enter Try.func6, Try.ntmps6
    go_wp2_with fail
    refine (drawAP_any _ _ _ _ ha hc hm hmc).mono ?_
    rintro e w1 ⟨P, a, v, b, hb0, hb21, rfl, B1⟩
    clear ha hm hc hmc
    unfold AVal
    have H := Lib.hid (show Below w.heap.size w w1 ∧ True from ⟨B1, True.intro⟩)
    clear B1
    by_cases ho : okA P a v = true ∧ okB b = true
    · obtain ⟨ho, hb⟩ := ho
      by_cases hp : b ≤ P
      · have HR := Lib.hid (prep_low ho hb hp)
        have H := Lib.hid (show Below w.heap.size w (w1.alloc (.cells #[.int .i64 P, .int .i64 a, .int .i64 v] 24)) ∧  AF3 (w1.alloc (.cells #[.int .i64 P, .int .i64 a, .int .i64 v] 24)) w1.heap.size P a v ∧ True from ⟨H.out.1.alloc H.out.1.size _,  AF3.new w1 P a v 24, True.intro⟩)
        obtain ⟨f00, f01, f02⟩ := cells3 H.out.2.1.ab
        go_wp2_with fail
        refine (sAPrep_any P a v b _).mono ?_
        rintro e w2 ⟨rfl, bb⟩
        have H := Lib.hid (show Below w.heap.size w w2 ∧ AF3 w2 w1.heap.size P a v ∧  True from ⟨below_step H.out.1 bb, H.out.2.1.below bb,  True.intro⟩)
        clear bb
        clear f00 f01 f02
        rw [HR.out]
        simp only [Ac.val, AVal]
        have H := Lib.hid (show Below w.heap.size w (w2.alloc (.cells #[.int .i64 P, .int .i64 a, .int .i64 v] 24)) ∧ AF3 (w2.alloc (.cells #[.int .i64 P, .int .i64 a, .int .i64 v] 24)) w1.heap.size P a v ∧  AF3 (w2.alloc (.cells #[.int .i64 P, .int .i64 a, .int .i64 v] 24)) w2.heap.size P a v ∧ True from ⟨H.out.1.alloc H.out.1.size _, H.out.2.1.alloc _,  AF3.new w2 P a v 24, True.intro⟩)
        obtain ⟨f00, f01, f02⟩ := cells3 H.out.2.1.ab
        obtain ⟨f10, f11, f12⟩ := cells3 H.out.2.2.1.ab
        go_wp2_with fail
        refine (iAPrep_any P a v b _).mono ?_
        rintro e w3 ⟨rfl, bb⟩
        have H := Lib.hid (show Below w.heap.size w w3 ∧ AF3 w3 w1.heap.size P a v ∧ AF3 w3 w2.heap.size P a v ∧  True from ⟨below_step H.out.1 bb, H.out.2.1.below bb, H.out.2.2.1.below bb,  True.intro⟩)
        clear bb
        clear f00 f01 f02 f10 f11 f12
        rw [HR.out]
        simp only [Ac.val, AVal]
        have H := Lib.hid (show Below w.heap.size w (w3.alloc (.cells #[.int .i64 P, .int .i64 a, .int .i64 v] 24)) ∧ AF3 (w3.alloc (.cells #[.int .i64 P, .int .i64 a, .int .i64 v] 24)) w1.heap.size P a v ∧ AF3 (w3.alloc (.cells #[.int .i64 P, .int .i64 a, .int .i64 v] 24)) w2.heap.size P a v ∧  AF3 (w3.alloc (.cells #[.int .i64 P, .int .i64 a, .int .i64 v] 24)) w3.heap.size P a v ∧ True from ⟨H.out.1.alloc H.out.1.size _, H.out.2.1.alloc _, H.out.2.2.1.alloc _,  AF3.new w3 P a v 24, True.intro⟩)
        obtain ⟨f00, f01, f02⟩ := cells3 H.out.2.1.ab
        obtain ⟨f10, f11, f12⟩ := cells3 H.out.2.2.1.ab
        obtain ⟨f20, f21, f22⟩ := cells3 H.out.2.2.2.1.ab
        go_wp2
        go_ret
        exact ⟨rfl, H.out.1⟩
      · have HR := Lib.hid (prep_high ho hb hp)
        have HU := Lib.hid (okA_up ho hb hp)
        clear ho hp
        have H := Lib.hid (show Below w.heap.size w (w1.alloc (.cells #[.int .i64 P, .int .i64 a, .int .i64 v] 24)) ∧  AF3 (w1.alloc (.cells #[.int .i64 P, .int .i64 a, .int .i64 v] 24)) w1.heap.size P a v ∧ True from ⟨H.out.1.alloc H.out.1.size _,  AF3.new w1 P a v 24, True.intro⟩)
        obtain ⟨f00, f01, f02⟩ := cells3 H.out.2.1.ab
        go_wp2_with fail
        refine (sAPrep_any P a v b _).mono ?_
        rintro e w2 ⟨rfl, bb⟩
        have H := Lib.hid (show Below w.heap.size w w2 ∧ AF3 w2 w1.heap.size P a v ∧  True from ⟨below_step H.out.1 bb, H.out.2.1.below bb,  True.intro⟩)
        clear bb
        clear f00 f01 f02
        rw [HR.out]
        simp only [Ac.val, AVal]
        have H := Lib.hid (show Below w.heap.size w (w2.alloc (.cells #[.int .i64 b, .int .i64 a, .int .i64 v] 24)) ∧ AF3 (w2.alloc (.cells #[.int .i64 b, .int .i64 a, .int .i64 v] 24)) w1.heap.size P a v ∧  AF3 (w2.alloc (.cells #[.int .i64 b, .int .i64 a, .int .i64 v] 24)) w2.heap.size b a v ∧ True from ⟨H.out.1.alloc H.out.1.size _, H.out.2.1.alloc _,  AF3.new w2 b a v 24, True.intro⟩)
        obtain ⟨f00, f01, f02⟩ := cells3 H.out.2.1.ab
        obtain ⟨f10, f11, f12⟩ := cells3 H.out.2.2.1.ab
        go_wp2_with fail
        refine (iAPrep_any P a v b _).mono ?_
        rintro e w3 ⟨rfl, bb⟩
        have H := Lib.hid (show Below w.heap.size w w3 ∧ AF3 w3 w1.heap.size P a v ∧ AF3 w3 w2.heap.size b a v ∧  True from ⟨below_step H.out.1 bb, H.out.2.1.below bb, H.out.2.2.1.below bb,  True.intro⟩)
        clear bb
        clear f00 f01 f02 f10 f11 f12
        rw [HR.out]
        simp only [Ac.val, AVal]
        have H := Lib.hid (show Below w.heap.size w (w3.alloc (.cells #[.int .i64 b, .int .i64 a, .int .i64 v] 24)) ∧ AF3 (w3.alloc (.cells #[.int .i64 b, .int .i64 a, .int .i64 v] 24)) w1.heap.size P a v ∧ AF3 (w3.alloc (.cells #[.int .i64 b, .int .i64 a, .int .i64 v] 24)) w2.heap.size b a v ∧  AF3 (w3.alloc (.cells #[.int .i64 b, .int .i64 a, .int .i64 v] 24)) w3.heap.size b a v ∧ True from ⟨H.out.1.alloc H.out.1.size _, H.out.2.1.alloc _, H.out.2.2.1.alloc _,  AF3.new w3 b a v 24, True.intro⟩)
        obtain ⟨f00, f01, f02⟩ := cells3 H.out.2.1.ab
        obtain ⟨f10, f11, f12⟩ := cells3 H.out.2.2.1.ab
        obtain ⟨f20, f21, f22⟩ := cells3 H.out.2.2.2.1.ab
        have H2 := Lib.hid (And.intro H.out.2.2.2.1 H.out.1)
        clear H
        go_wp2
        go_loopw [9] (fun i wr => ∃ k : Nat, 1 ≤ k ∧ k ≤ 21 ∧ i = .int .i64 k ∧ AF3 wr w3.heap.size b a v ∧ Below w.heap.size w wr) (fun i _ => 21 - (intOf i).toNat)
        case atStart => exact ⟨1, Nat.le_refl _, by omega, rfl, H2.out.1, H2.out.2⟩
        case round =>
          clear H2 f00 f01 f02 f10 f11 f12 f20 f21 f22
          obtain ⟨k, hk1, hk, rfl, hx, hbel⟩ := hrel
          by_cases hlt : k ≤ 20
          · have hki : (k : Int) ≤ 20 := by omega
            obtain ⟨f20, f21, f22⟩ := cells3 hx.ab
            have hok : okB (k : Int) = true := by simp [okB]; omega
            by_cases hq : (k : Int) < b
            · have HA := Lib.hid (acc_low HU.out hok (by decide : okV 7 = true) hq)
              clear hok
              go_wp2_with fail
              refine (iAAcc_any b a v (k : Int) 7 _).mono ?_
              rintro e w4 ⟨rfl, b4⟩
              rw [HA.out]
              simp only [Ac.val, AVal]
              have HN := Lib.hid (And.intro ((hx.below b4).alloc (.cells #[.int .i64 b, .int .i64 a, .int .i64 v] 24)) ((below_step hbel b4).alloc (below_step hbel b4).size (.cells #[.int .i64 b, .int .i64 a, .int .i64 v] 24)))
              clear hx hbel b4 f20 f21 f22
              go_wp2
              go_roundw
              case rel => exact ⟨k + 1, by omega, by omega, by go_num, HN.out.1, HN.out.2⟩
              case measure => simp [intOf]; omega
            · have HA := Lib.hid (acc_high HU.out hok (by decide : okV 7 = true) hq)
              have hq' : b ≤ (k : Int) := by omega
              clear hq
              clear hok
              go_wp2_with fail
              refine (iAAcc_any b a v (k : Int) 7 _).mono ?_
              rintro e w4 ⟨rfl, b4⟩
              rw [HA.out]
              simp only [Ac.val, AVal]
              have HN := Lib.hid (And.intro ((hx.below b4).alloc (.cells #[.int .i64 (k : Int), .int .i64 (k : Int), .int .i64 7] 24)) ((below_step hbel b4).alloc (below_step hbel b4).size (.cells #[.int .i64 (k : Int), .int .i64 (k : Int), .int .i64 7] 24)))
              clear hx hbel b4 f20 f21 f22
              go_wp2
              go_roundw
              case rel => exact ⟨k + 1, by omega, by omega, by go_num, HN.out.1, HN.out.2⟩
              case measure => simp [intOf]; omega
          · have hki : ¬ (k : Int) ≤ 20 := by omega
            go_wp2
            go_ret
            exact ⟨rfl, hbel⟩
    · have HR := Lib.hid (prep_no (P := P) (a := a) (v := v) (b := b) (by revert ho; cases okA P a v <;> cases okB b <;> simp))
      clear ho
      have H := Lib.hid (show Below w.heap.size w (w1.alloc (.cells #[.int .i64 P, .int .i64 a, .int .i64 v] 24)) ∧  AF3 (w1.alloc (.cells #[.int .i64 P, .int .i64 a, .int .i64 v] 24)) w1.heap.size P a v ∧ True from ⟨H.out.1.alloc H.out.1.size _,  AF3.new w1 P a v 24, True.intro⟩)
      obtain ⟨f00, f01, f02⟩ := cells3 H.out.2.1.ab
      go_wp2_with fail
      refine (sAPrep_any P a v b _).mono ?_
      rintro e w2 ⟨rfl, bb⟩
      have H := Lib.hid (show Below w.heap.size w w2 ∧ AF3 w2 w1.heap.size P a v ∧  True from ⟨below_step H.out.1 bb, H.out.2.1.below bb,  True.intro⟩)
      clear bb
      clear f00 f01 f02
      rw [HR.out]
      simp only [Ac.val, AVal]
      have H := Lib.hid (show Below w.heap.size w (w2.alloc (.cells #[.int .i64 0, .int .i64 0, .int .i64 0] 24)) ∧ AF3 (w2.alloc (.cells #[.int .i64 0, .int .i64 0, .int .i64 0] 24)) w1.heap.size P a v ∧  AF3 (w2.alloc (.cells #[.int .i64 0, .int .i64 0, .int .i64 0] 24)) w2.heap.size 0 0 0 ∧ True from ⟨H.out.1.alloc H.out.1.size _, H.out.2.1.alloc _,  AF3.new w2 0 0 0 24, True.intro⟩)
      obtain ⟨f00, f01, f02⟩ := cells3 H.out.2.1.ab
      obtain ⟨f10, f11, f12⟩ := cells3 H.out.2.2.1.ab
      go_wp2_with fail
      refine (iAPrep_any P a v b _).mono ?_
      rintro e w3 ⟨rfl, bb⟩
      have H := Lib.hid (show Below w.heap.size w w3 ∧ AF3 w3 w1.heap.size P a v ∧ AF3 w3 w2.heap.size 0 0 0 ∧  True from ⟨below_step H.out.1 bb, H.out.2.1.below bb, H.out.2.2.1.below bb,  True.intro⟩)
      clear bb
      clear f00 f01 f02 f10 f11 f12
      rw [HR.out]
      simp only [Ac.val, AVal]
      have H := Lib.hid (show Below w.heap.size w (w3.alloc (.cells #[.int .i64 0, .int .i64 0, .int .i64 0] 24)) ∧ AF3 (w3.alloc (.cells #[.int .i64 0, .int .i64 0, .int .i64 0] 24)) w1.heap.size P a v ∧ AF3 (w3.alloc (.cells #[.int .i64 0, .int .i64 0, .int .i64 0] 24)) w2.heap.size 0 0 0 ∧  AF3 (w3.alloc (.cells #[.int .i64 0, .int .i64 0, .int .i64 0] 24)) w3.heap.size 0 0 0 ∧ True from ⟨H.out.1.alloc H.out.1.size _, H.out.2.1.alloc _, H.out.2.2.1.alloc _,  AF3.new w3 0 0 0 24, True.intro⟩)
      obtain ⟨f00, f01, f02⟩ := cells3 H.out.2.1.ab
      obtain ⟨f10, f11, f12⟩ := cells3 H.out.2.2.1.ab
      obtain ⟨f20, f21, f22⟩ := cells3 H.out.2.2.2.1.ab
      go_wp2
      go_ret
      exact ⟨rfl, H.out.1⟩
  · skip
    go_enter Try.func6, Try.ntmps6
    go_wp2
    go_ret
    exact ⟨rfl, Below.refl _ w⟩
end Go.Proofs.Ytndgmglelogegaa
