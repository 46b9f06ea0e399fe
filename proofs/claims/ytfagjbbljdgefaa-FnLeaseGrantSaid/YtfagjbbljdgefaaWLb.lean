/- The walks of chapter 23's laws. -/
import Derived.Test.YtfagjbbljdgefaaWLa
import Derived.Test.YtfagjbbljdgefaaLq
namespace Go.Proofs.Ytfagjbbljdgefaa
open Go.RowKit

theorem lGr_of {h s n h' now len d : Int} (hl : lsOk h s n = true) (n0 : 0 ≤ now) (n1 : now ≤ 999) (d0 : 0 ≤ d) (d1 : d ≤ 99) (a : 1 ≤ h') (a' : h' ≤ 6) (b : 1 ≤ len) (b' : len ≤ 999) : lGr h s n h' now len d = gr0 h s n d h' now len := by
  unfold lGr
  rw [if_pos]
  simp only [hl, show tmOk now = true by simp [tmOk, n0, n1], show dfOk d = true by simp [dfOk, d0, d1], show decide (1 ≤ h' ∧ h' ≤ 6) = true by simp [a, a'], show decide (1 ≤ len ∧ len ≤ 999) = true by simp [b, b'], Bool.true_and]
theorem gr0_exp {h s n h' now len d : Int} (ht : (!hlOk h s n || decide (s + n + d ≤ now)) = true) : gr0 h s n d h' now len = ((h', now, len), true) := by unfold gr0; rw [ht]; rfl
theorem gr0_ext {h s n h' now len d : Int} (hx : extBy h s n h' now len = true) : gr0 h s n d h' now len = ((h', now, len), true) := by unfold gr0; rw [hx, Bool.or_true]; rfl
theorem gr0_no {h s n h' now len d : Int} (ht : (!hlOk h s n || decide (s + n + d ≤ now)) = false) (hx : extBy h s n h' now len = false) : gr0 h s n d h' now len = ((h, s, n), false) := by unfold gr0; rw [ht, hx]; rfl
theorem ls_new {h' now len : Int} (n0 : 0 ≤ now) (n1 : now ≤ 999) (a : 1 ≤ h') (a' : h' ≤ 6) (b : 1 ≤ len) (b' : len ≤ 999) : lsOk h' now len = true := by
  have : hlOk h' now len = true := by simp [hlOk]; omega
  simp [lsOk, this]

set_option maxRecDepth 100000 in
set_option maxHeartbeats 3200000 in
theorem walkLsGrant (A : Option Addr) (c : Nat) (l : List Int) (w : World) (ha : BL w A l) (hc : l.length ≤ c) (hm : l.length ≤ maxLen) (hmc : c ≤ maxLen) :
    Calls Try.prog 6 #[.slice A l.length c] w fun e w' => e = .returned (.bool true) ∧ Below w.heap.size w w' := by
  have hm1 := hm
  unfold maxLen at hm1
  by_cases hl : l.length ≤ 1048576
  · go_enter Try.func6, Try.ntmps6
    go_wp2_with fail
    refine (drawLG_any _ _ _ _ ha hc hm hmc).mono ?_
    rintro e w1 ⟨h, s, n, h', now, len, d, h0, h1, s0, s1, n0, n1, h0', h1', t0, t1, l0, l1, d0, d1, rfl, B1⟩
    clear ha hm hc hmc
    unfold AVal
    have H := Lib.hid (show Below w.heap.size w w1 ∧ True from ⟨B1, True.intro⟩)
    clear B1
    by_cases hv : lsOk h s n = true
    · have HV := Lib.hid hv
      by_cases hn : now < 0
      · have g1 : decide (now < 0) = true := by simpa using hn
        clear hv hn
        obtain ⟨⟨⟨P, A, V⟩, t⟩, hr⟩ : ∃ r, lGr h s n h' now len d = r := ⟨_, rfl⟩
        have HR := Lib.hid hr
        clear hr
        have H := Lib.hid (show Below w.heap.size w (w1.alloc (.cells #[.int .i64 h, .int .i64 s, .int .i64 n] 24)) ∧  AF3 (w1.alloc (.cells #[.int .i64 h, .int .i64 s, .int .i64 n] 24)) w1.heap.size h s n ∧ True from ⟨H.out.1.alloc H.out.1.size _,  AF3.new w1 h s n 24, True.intro⟩)
        obtain ⟨f00, f01, f02⟩ := cells3 H.out.2.1.ab
        go_wp2_with fail
        refine (sLsGr_any h s n h' now len d _).mono ?_
        rintro e w2 ⟨rfl, bb⟩
        have H := Lib.hid (show Below w.heap.size w w2 ∧ AF3 w2 w1.heap.size h s n ∧  True from ⟨below_step H.out.1 bb, H.out.2.1.below bb,  True.intro⟩)
        clear bb
        first | clear f00 f01 f02 | skip
        rw [HR.out]
        simp only [Ac.val, AVal]
        have H := Lib.hid (show Below w.heap.size w (w2.alloc (.cells #[.int .i64 P, .int .i64 A, .int .i64 V] 24)) ∧ AF3 (w2.alloc (.cells #[.int .i64 P, .int .i64 A, .int .i64 V] 24)) w1.heap.size h s n ∧  AF3 (w2.alloc (.cells #[.int .i64 P, .int .i64 A, .int .i64 V] 24)) w2.heap.size P A V ∧ True from ⟨H.out.1.alloc H.out.1.size _, H.out.2.1.alloc _,  AF3.new w2 P A V 24, True.intro⟩)
        obtain ⟨f00, f01, f02⟩ := cells3 H.out.2.1.ab
        obtain ⟨f10, f11, f12⟩ := cells3 H.out.2.2.1.ab
        go_wp2_with fail
        refine (iLsGr_any h s n h' now len d _).mono ?_
        rintro e w3 ⟨rfl, bb⟩
        have H := Lib.hid (show Below w.heap.size w w3 ∧ AF3 w3 w1.heap.size h s n ∧ AF3 w3 w2.heap.size P A V ∧  True from ⟨below_step H.out.1 bb, H.out.2.1.below bb, H.out.2.2.1.below bb,  True.intro⟩)
        clear bb
        first | clear f00 f01 f02 f10 f11 f12 | skip
        rw [HR.out]
        simp only [Ac.val, AVal]
        have H := Lib.hid (show Below w.heap.size w (w3.alloc (.cells #[.int .i64 P, .int .i64 A, .int .i64 V] 24)) ∧ AF3 (w3.alloc (.cells #[.int .i64 P, .int .i64 A, .int .i64 V] 24)) w1.heap.size h s n ∧ AF3 (w3.alloc (.cells #[.int .i64 P, .int .i64 A, .int .i64 V] 24)) w2.heap.size P A V ∧  AF3 (w3.alloc (.cells #[.int .i64 P, .int .i64 A, .int .i64 V] 24)) w3.heap.size P A V ∧ True from ⟨H.out.1.alloc H.out.1.size _, H.out.2.1.alloc _, H.out.2.2.1.alloc _,  AF3.new w3 P A V 24, True.intro⟩)
        obtain ⟨f00, f01, f02⟩ := cells3 H.out.2.1.ab
        obtain ⟨f10, f11, f12⟩ := cells3 H.out.2.2.1.ab
        obtain ⟨f20, f21, f22⟩ := cells3 H.out.2.2.2.1.ab
        go_wp2_with fail
        refine (sLsValid_any h s n _).mono ?_
        rintro e w4 ⟨rfl, bb⟩
        have H := Lib.hid (show Below w.heap.size w w4 ∧ AF3 w4 w1.heap.size h s n ∧ AF3 w4 w2.heap.size P A V ∧ AF3 w4 w3.heap.size P A V ∧  True from ⟨below_step H.out.1 bb, H.out.2.1.below bb, H.out.2.2.1.below bb, H.out.2.2.2.1.below bb,  True.intro⟩)
        clear bb
        first | clear f00 f01 f02 f10 f11 f12 f20 f21 f22 | skip
        rw [HV.out]
        obtain ⟨f00, f01, f02⟩ := cells3 H.out.2.1.ab
        obtain ⟨f10, f11, f12⟩ := cells3 H.out.2.2.1.ab
        obtain ⟨f20, f21, f22⟩ := cells3 H.out.2.2.2.1.ab
        go_wp2
        go_ret
        exact ⟨by first | rfl | simp_all, H.out.1⟩
      · have hn0 : 0 ≤ now := by omega
        have g1 : decide (now < 0) = false := by simpa using hn
        have g2 : decide (999 < now) = false := by simp; omega
        by_cases hd : d < 0
        · have g3 : decide (d < 0) = true := by simpa using hd
          clear hv hn hd
          obtain ⟨⟨⟨P, A, V⟩, t⟩, hr⟩ : ∃ r, lGr h s n h' now len d = r := ⟨_, rfl⟩
          have HR := Lib.hid hr
          clear hr
          have H := Lib.hid (show Below w.heap.size w (w1.alloc (.cells #[.int .i64 h, .int .i64 s, .int .i64 n] 24)) ∧  AF3 (w1.alloc (.cells #[.int .i64 h, .int .i64 s, .int .i64 n] 24)) w1.heap.size h s n ∧ True from ⟨H.out.1.alloc H.out.1.size _,  AF3.new w1 h s n 24, True.intro⟩)
          obtain ⟨f00, f01, f02⟩ := cells3 H.out.2.1.ab
          go_wp2_with fail
          refine (sLsGr_any h s n h' now len d _).mono ?_
          rintro e w2 ⟨rfl, bb⟩
          have H := Lib.hid (show Below w.heap.size w w2 ∧ AF3 w2 w1.heap.size h s n ∧  True from ⟨below_step H.out.1 bb, H.out.2.1.below bb,  True.intro⟩)
          clear bb
          first | clear f00 f01 f02 | skip
          rw [HR.out]
          simp only [Ac.val, AVal]
          have H := Lib.hid (show Below w.heap.size w (w2.alloc (.cells #[.int .i64 P, .int .i64 A, .int .i64 V] 24)) ∧ AF3 (w2.alloc (.cells #[.int .i64 P, .int .i64 A, .int .i64 V] 24)) w1.heap.size h s n ∧  AF3 (w2.alloc (.cells #[.int .i64 P, .int .i64 A, .int .i64 V] 24)) w2.heap.size P A V ∧ True from ⟨H.out.1.alloc H.out.1.size _, H.out.2.1.alloc _,  AF3.new w2 P A V 24, True.intro⟩)
          obtain ⟨f00, f01, f02⟩ := cells3 H.out.2.1.ab
          obtain ⟨f10, f11, f12⟩ := cells3 H.out.2.2.1.ab
          go_wp2_with fail
          refine (iLsGr_any h s n h' now len d _).mono ?_
          rintro e w3 ⟨rfl, bb⟩
          have H := Lib.hid (show Below w.heap.size w w3 ∧ AF3 w3 w1.heap.size h s n ∧ AF3 w3 w2.heap.size P A V ∧  True from ⟨below_step H.out.1 bb, H.out.2.1.below bb, H.out.2.2.1.below bb,  True.intro⟩)
          clear bb
          first | clear f00 f01 f02 f10 f11 f12 | skip
          rw [HR.out]
          simp only [Ac.val, AVal]
          have H := Lib.hid (show Below w.heap.size w (w3.alloc (.cells #[.int .i64 P, .int .i64 A, .int .i64 V] 24)) ∧ AF3 (w3.alloc (.cells #[.int .i64 P, .int .i64 A, .int .i64 V] 24)) w1.heap.size h s n ∧ AF3 (w3.alloc (.cells #[.int .i64 P, .int .i64 A, .int .i64 V] 24)) w2.heap.size P A V ∧  AF3 (w3.alloc (.cells #[.int .i64 P, .int .i64 A, .int .i64 V] 24)) w3.heap.size P A V ∧ True from ⟨H.out.1.alloc H.out.1.size _, H.out.2.1.alloc _, H.out.2.2.1.alloc _,  AF3.new w3 P A V 24, True.intro⟩)
          obtain ⟨f00, f01, f02⟩ := cells3 H.out.2.1.ab
          obtain ⟨f10, f11, f12⟩ := cells3 H.out.2.2.1.ab
          obtain ⟨f20, f21, f22⟩ := cells3 H.out.2.2.2.1.ab
          go_wp2_with fail
          refine (sLsValid_any h s n _).mono ?_
          rintro e w4 ⟨rfl, bb⟩
          have H := Lib.hid (show Below w.heap.size w w4 ∧ AF3 w4 w1.heap.size h s n ∧ AF3 w4 w2.heap.size P A V ∧ AF3 w4 w3.heap.size P A V ∧  True from ⟨below_step H.out.1 bb, H.out.2.1.below bb, H.out.2.2.1.below bb, H.out.2.2.2.1.below bb,  True.intro⟩)
          clear bb
          first | clear f00 f01 f02 f10 f11 f12 f20 f21 f22 | skip
          rw [HV.out]
          obtain ⟨f00, f01, f02⟩ := cells3 H.out.2.1.ab
          obtain ⟨f10, f11, f12⟩ := cells3 H.out.2.2.1.ab
          obtain ⟨f20, f21, f22⟩ := cells3 H.out.2.2.2.1.ab
          go_wp2
          go_ret
          exact ⟨by first | rfl | simp_all, H.out.1⟩
        · have hd0 : 0 ≤ d := by omega
          have g3 : decide (d < 0) = false := by simpa using hd
          have er := lGr_of (h' := h') (len := len) hv hn0 (by omega : now ≤ 999) hd0 (by omega : d ≤ 99) h0' h1' l0 (by omega)
          have ee := exp_of hv hn0 (by omega : now ≤ 999) hd0 (by omega : d ≤ 99)
          clear hn hd
          have HW := Lib.hid (ls_new hn0 (by omega : now ≤ 999) h0' h1' l0 (by omega : len ≤ 999))
          by_cases he : (!hlOk h s n || decide (s + n + d ≤ now)) = true
          · have HE := Lib.hid (ee.trans he)
            clear ee hv
            by_cases q : h = h'
            · subst q
              by_cases q1 : s ≤ now
              · have a1 : decide (s ≤ now) = true := by simpa using q1
                by_cases q2 : s + n ≤ now + len
                · have a2 : decide (s + n ≤ now + len) = true := by simpa using q2
                  have hx : extBy h s n h now len = true := by simp [extBy, q1, q2]
                  clear q1 q2
                  have HR := Lib.hid (er.trans (gr0_exp he))
                  clear hx er he
                  have H := Lib.hid (show Below w.heap.size w (w1.alloc (.cells #[.int .i64 h, .int .i64 s, .int .i64 n] 24)) ∧  AF3 (w1.alloc (.cells #[.int .i64 h, .int .i64 s, .int .i64 n] 24)) w1.heap.size h s n ∧ True from ⟨H.out.1.alloc H.out.1.size _,  AF3.new w1 h s n 24, True.intro⟩)
                  obtain ⟨f00, f01, f02⟩ := cells3 H.out.2.1.ab
                  go_wp2_with fail
                  refine (sLsGr_any h s n h now len d _).mono ?_
                  rintro e w2 ⟨rfl, bb⟩
                  have H := Lib.hid (show Below w.heap.size w w2 ∧ AF3 w2 w1.heap.size h s n ∧  True from ⟨below_step H.out.1 bb, H.out.2.1.below bb,  True.intro⟩)
                  clear bb
                  first | clear f00 f01 f02 | skip
                  rw [HR.out]
                  simp only [Ac.val, AVal]
                  have H := Lib.hid (show Below w.heap.size w (w2.alloc (.cells #[.int .i64 h, .int .i64 now, .int .i64 len] 24)) ∧ AF3 (w2.alloc (.cells #[.int .i64 h, .int .i64 now, .int .i64 len] 24)) w1.heap.size h s n ∧  AF3 (w2.alloc (.cells #[.int .i64 h, .int .i64 now, .int .i64 len] 24)) w2.heap.size h now len ∧ True from ⟨H.out.1.alloc H.out.1.size _, H.out.2.1.alloc _,  AF3.new w2 h now len 24, True.intro⟩)
                  obtain ⟨f00, f01, f02⟩ := cells3 H.out.2.1.ab
                  obtain ⟨f10, f11, f12⟩ := cells3 H.out.2.2.1.ab
                  go_wp2_with fail
                  refine (iLsGr_any h s n h now len d _).mono ?_
                  rintro e w3 ⟨rfl, bb⟩
                  have H := Lib.hid (show Below w.heap.size w w3 ∧ AF3 w3 w1.heap.size h s n ∧ AF3 w3 w2.heap.size h now len ∧  True from ⟨below_step H.out.1 bb, H.out.2.1.below bb, H.out.2.2.1.below bb,  True.intro⟩)
                  clear bb
                  first | clear f00 f01 f02 f10 f11 f12 | skip
                  rw [HR.out]
                  simp only [Ac.val, AVal]
                  have H := Lib.hid (show Below w.heap.size w (w3.alloc (.cells #[.int .i64 h, .int .i64 now, .int .i64 len] 24)) ∧ AF3 (w3.alloc (.cells #[.int .i64 h, .int .i64 now, .int .i64 len] 24)) w1.heap.size h s n ∧ AF3 (w3.alloc (.cells #[.int .i64 h, .int .i64 now, .int .i64 len] 24)) w2.heap.size h now len ∧  AF3 (w3.alloc (.cells #[.int .i64 h, .int .i64 now, .int .i64 len] 24)) w3.heap.size h now len ∧ True from ⟨H.out.1.alloc H.out.1.size _, H.out.2.1.alloc _, H.out.2.2.1.alloc _,  AF3.new w3 h now len 24, True.intro⟩)
                  obtain ⟨f00, f01, f02⟩ := cells3 H.out.2.1.ab
                  obtain ⟨f10, f11, f12⟩ := cells3 H.out.2.2.1.ab
                  obtain ⟨f20, f21, f22⟩ := cells3 H.out.2.2.2.1.ab
                  go_wp2_with fail
                  refine (sLsValid_any h s n _).mono ?_
                  rintro e w4 ⟨rfl, bb⟩
                  have H := Lib.hid (show Below w.heap.size w w4 ∧ AF3 w4 w1.heap.size h s n ∧ AF3 w4 w2.heap.size h now len ∧ AF3 w4 w3.heap.size h now len ∧  True from ⟨below_step H.out.1 bb, H.out.2.1.below bb, H.out.2.2.1.below bb, H.out.2.2.2.1.below bb,  True.intro⟩)
                  clear bb
                  first | clear f00 f01 f02 f10 f11 f12 f20 f21 f22 | skip
                  rw [HV.out]
                  obtain ⟨f00, f01, f02⟩ := cells3 H.out.2.1.ab
                  obtain ⟨f10, f11, f12⟩ := cells3 H.out.2.2.1.ab
                  obtain ⟨f20, f21, f22⟩ := cells3 H.out.2.2.2.1.ab
                  go_wp2_with fail
                  refine (iLsValid_any h now len _).mono ?_
                  rintro e w5 ⟨rfl, bb⟩
                  have H := Lib.hid (show Below w.heap.size w w5 ∧ AF3 w5 w1.heap.size h s n ∧ AF3 w5 w2.heap.size h now len ∧ AF3 w5 w3.heap.size h now len ∧  True from ⟨below_step H.out.1 bb, H.out.2.1.below bb, H.out.2.2.1.below bb, H.out.2.2.2.1.below bb,  True.intro⟩)
                  clear bb
                  first | clear f00 f01 f02 f10 f11 f12 f20 f21 f22 | skip
                  rw [HW.out]
                  go_wp2
                  go_ret
                  exact ⟨by first | rfl | simp_all, H.out.1⟩
                · have a2 : decide (s + n ≤ now + len) = false := by simpa using q2
                  have hx : extBy h s n h now len = false := by simp [extBy, q2]
                  clear q1 q2
                  have HR := Lib.hid (er.trans (gr0_exp he))
                  clear hx er he
                  have H := Lib.hid (show Below w.heap.size w (w1.alloc (.cells #[.int .i64 h, .int .i64 s, .int .i64 n] 24)) ∧  AF3 (w1.alloc (.cells #[.int .i64 h, .int .i64 s, .int .i64 n] 24)) w1.heap.size h s n ∧ True from ⟨H.out.1.alloc H.out.1.size _,  AF3.new w1 h s n 24, True.intro⟩)
                  obtain ⟨f00, f01, f02⟩ := cells3 H.out.2.1.ab
                  go_wp2_with fail
                  refine (sLsGr_any h s n h now len d _).mono ?_
                  rintro e w2 ⟨rfl, bb⟩
                  have H := Lib.hid (show Below w.heap.size w w2 ∧ AF3 w2 w1.heap.size h s n ∧  True from ⟨below_step H.out.1 bb, H.out.2.1.below bb,  True.intro⟩)
                  clear bb
                  first | clear f00 f01 f02 | skip
                  rw [HR.out]
                  simp only [Ac.val, AVal]
                  have H := Lib.hid (show Below w.heap.size w (w2.alloc (.cells #[.int .i64 h, .int .i64 now, .int .i64 len] 24)) ∧ AF3 (w2.alloc (.cells #[.int .i64 h, .int .i64 now, .int .i64 len] 24)) w1.heap.size h s n ∧  AF3 (w2.alloc (.cells #[.int .i64 h, .int .i64 now, .int .i64 len] 24)) w2.heap.size h now len ∧ True from ⟨H.out.1.alloc H.out.1.size _, H.out.2.1.alloc _,  AF3.new w2 h now len 24, True.intro⟩)
                  obtain ⟨f00, f01, f02⟩ := cells3 H.out.2.1.ab
                  obtain ⟨f10, f11, f12⟩ := cells3 H.out.2.2.1.ab
                  go_wp2_with fail
                  refine (iLsGr_any h s n h now len d _).mono ?_
                  rintro e w3 ⟨rfl, bb⟩
                  have H := Lib.hid (show Below w.heap.size w w3 ∧ AF3 w3 w1.heap.size h s n ∧ AF3 w3 w2.heap.size h now len ∧  True from ⟨below_step H.out.1 bb, H.out.2.1.below bb, H.out.2.2.1.below bb,  True.intro⟩)
                  clear bb
                  first | clear f00 f01 f02 f10 f11 f12 | skip
                  rw [HR.out]
                  simp only [Ac.val, AVal]
                  have H := Lib.hid (show Below w.heap.size w (w3.alloc (.cells #[.int .i64 h, .int .i64 now, .int .i64 len] 24)) ∧ AF3 (w3.alloc (.cells #[.int .i64 h, .int .i64 now, .int .i64 len] 24)) w1.heap.size h s n ∧ AF3 (w3.alloc (.cells #[.int .i64 h, .int .i64 now, .int .i64 len] 24)) w2.heap.size h now len ∧  AF3 (w3.alloc (.cells #[.int .i64 h, .int .i64 now, .int .i64 len] 24)) w3.heap.size h now len ∧ True from ⟨H.out.1.alloc H.out.1.size _, H.out.2.1.alloc _, H.out.2.2.1.alloc _,  AF3.new w3 h now len 24, True.intro⟩)
                  obtain ⟨f00, f01, f02⟩ := cells3 H.out.2.1.ab
                  obtain ⟨f10, f11, f12⟩ := cells3 H.out.2.2.1.ab
                  obtain ⟨f20, f21, f22⟩ := cells3 H.out.2.2.2.1.ab
                  go_wp2_with fail
                  refine (sLsValid_any h s n _).mono ?_
                  rintro e w4 ⟨rfl, bb⟩
                  have H := Lib.hid (show Below w.heap.size w w4 ∧ AF3 w4 w1.heap.size h s n ∧ AF3 w4 w2.heap.size h now len ∧ AF3 w4 w3.heap.size h now len ∧  True from ⟨below_step H.out.1 bb, H.out.2.1.below bb, H.out.2.2.1.below bb, H.out.2.2.2.1.below bb,  True.intro⟩)
                  clear bb
                  first | clear f00 f01 f02 f10 f11 f12 f20 f21 f22 | skip
                  rw [HV.out]
                  obtain ⟨f00, f01, f02⟩ := cells3 H.out.2.1.ab
                  obtain ⟨f10, f11, f12⟩ := cells3 H.out.2.2.1.ab
                  obtain ⟨f20, f21, f22⟩ := cells3 H.out.2.2.2.1.ab
                  go_wp2_with fail
                  refine (iLsExp_any h s n now d _).mono ?_
                  rintro e w5 ⟨rfl, bb⟩
                  have H := Lib.hid (show Below w.heap.size w w5 ∧ AF3 w5 w1.heap.size h s n ∧ AF3 w5 w2.heap.size h now len ∧ AF3 w5 w3.heap.size h now len ∧  True from ⟨below_step H.out.1 bb, H.out.2.1.below bb, H.out.2.2.1.below bb, H.out.2.2.2.1.below bb,  True.intro⟩)
                  clear bb
                  first | clear f00 f01 f02 f10 f11 f12 f20 f21 f22 | skip
                  rw [HE.out]
                  obtain ⟨f00, f01, f02⟩ := cells3 H.out.2.1.ab
                  obtain ⟨f10, f11, f12⟩ := cells3 H.out.2.2.1.ab
                  obtain ⟨f20, f21, f22⟩ := cells3 H.out.2.2.2.1.ab
                  go_wp2_with fail
                  refine (iLsValid_any h now len _).mono ?_
                  rintro e w6 ⟨rfl, bb⟩
                  have H := Lib.hid (show Below w.heap.size w w6 ∧ AF3 w6 w1.heap.size h s n ∧ AF3 w6 w2.heap.size h now len ∧ AF3 w6 w3.heap.size h now len ∧  True from ⟨below_step H.out.1 bb, H.out.2.1.below bb, H.out.2.2.1.below bb, H.out.2.2.2.1.below bb,  True.intro⟩)
                  clear bb
                  first | clear f00 f01 f02 f10 f11 f12 f20 f21 f22 | skip
                  rw [HW.out]
                  go_wp2
                  go_ret
                  exact ⟨by first | rfl | simp_all, H.out.1⟩
              · have a1 : decide (s ≤ now) = false := by simpa using q1
                have hx : extBy h s n h now len = false := by simp [extBy, q1]
                clear q1
                have HR := Lib.hid (er.trans (gr0_exp he))
                clear hx er he
                have H := Lib.hid (show Below w.heap.size w (w1.alloc (.cells #[.int .i64 h, .int .i64 s, .int .i64 n] 24)) ∧  AF3 (w1.alloc (.cells #[.int .i64 h, .int .i64 s, .int .i64 n] 24)) w1.heap.size h s n ∧ True from ⟨H.out.1.alloc H.out.1.size _,  AF3.new w1 h s n 24, True.intro⟩)
                obtain ⟨f00, f01, f02⟩ := cells3 H.out.2.1.ab
                go_wp2_with fail
                refine (sLsGr_any h s n h now len d _).mono ?_
                rintro e w2 ⟨rfl, bb⟩
                have H := Lib.hid (show Below w.heap.size w w2 ∧ AF3 w2 w1.heap.size h s n ∧  True from ⟨below_step H.out.1 bb, H.out.2.1.below bb,  True.intro⟩)
                clear bb
                first | clear f00 f01 f02 | skip
                rw [HR.out]
                simp only [Ac.val, AVal]
                have H := Lib.hid (show Below w.heap.size w (w2.alloc (.cells #[.int .i64 h, .int .i64 now, .int .i64 len] 24)) ∧ AF3 (w2.alloc (.cells #[.int .i64 h, .int .i64 now, .int .i64 len] 24)) w1.heap.size h s n ∧  AF3 (w2.alloc (.cells #[.int .i64 h, .int .i64 now, .int .i64 len] 24)) w2.heap.size h now len ∧ True from ⟨H.out.1.alloc H.out.1.size _, H.out.2.1.alloc _,  AF3.new w2 h now len 24, True.intro⟩)
                obtain ⟨f00, f01, f02⟩ := cells3 H.out.2.1.ab
                obtain ⟨f10, f11, f12⟩ := cells3 H.out.2.2.1.ab
                go_wp2_with fail
                refine (iLsGr_any h s n h now len d _).mono ?_
                rintro e w3 ⟨rfl, bb⟩
                have H := Lib.hid (show Below w.heap.size w w3 ∧ AF3 w3 w1.heap.size h s n ∧ AF3 w3 w2.heap.size h now len ∧  True from ⟨below_step H.out.1 bb, H.out.2.1.below bb, H.out.2.2.1.below bb,  True.intro⟩)
                clear bb
                first | clear f00 f01 f02 f10 f11 f12 | skip
                rw [HR.out]
                simp only [Ac.val, AVal]
                have H := Lib.hid (show Below w.heap.size w (w3.alloc (.cells #[.int .i64 h, .int .i64 now, .int .i64 len] 24)) ∧ AF3 (w3.alloc (.cells #[.int .i64 h, .int .i64 now, .int .i64 len] 24)) w1.heap.size h s n ∧ AF3 (w3.alloc (.cells #[.int .i64 h, .int .i64 now, .int .i64 len] 24)) w2.heap.size h now len ∧  AF3 (w3.alloc (.cells #[.int .i64 h, .int .i64 now, .int .i64 len] 24)) w3.heap.size h now len ∧ True from ⟨H.out.1.alloc H.out.1.size _, H.out.2.1.alloc _, H.out.2.2.1.alloc _,  AF3.new w3 h now len 24, True.intro⟩)
                obtain ⟨f00, f01, f02⟩ := cells3 H.out.2.1.ab
                obtain ⟨f10, f11, f12⟩ := cells3 H.out.2.2.1.ab
                obtain ⟨f20, f21, f22⟩ := cells3 H.out.2.2.2.1.ab
                go_wp2_with fail
                refine (sLsValid_any h s n _).mono ?_
                rintro e w4 ⟨rfl, bb⟩
                have H := Lib.hid (show Below w.heap.size w w4 ∧ AF3 w4 w1.heap.size h s n ∧ AF3 w4 w2.heap.size h now len ∧ AF3 w4 w3.heap.size h now len ∧  True from ⟨below_step H.out.1 bb, H.out.2.1.below bb, H.out.2.2.1.below bb, H.out.2.2.2.1.below bb,  True.intro⟩)
                clear bb
                first | clear f00 f01 f02 f10 f11 f12 f20 f21 f22 | skip
                rw [HV.out]
                obtain ⟨f00, f01, f02⟩ := cells3 H.out.2.1.ab
                obtain ⟨f10, f11, f12⟩ := cells3 H.out.2.2.1.ab
                obtain ⟨f20, f21, f22⟩ := cells3 H.out.2.2.2.1.ab
                go_wp2_with fail
                refine (iLsExp_any h s n now d _).mono ?_
                rintro e w5 ⟨rfl, bb⟩
                have H := Lib.hid (show Below w.heap.size w w5 ∧ AF3 w5 w1.heap.size h s n ∧ AF3 w5 w2.heap.size h now len ∧ AF3 w5 w3.heap.size h now len ∧  True from ⟨below_step H.out.1 bb, H.out.2.1.below bb, H.out.2.2.1.below bb, H.out.2.2.2.1.below bb,  True.intro⟩)
                clear bb
                first | clear f00 f01 f02 f10 f11 f12 f20 f21 f22 | skip
                rw [HE.out]
                obtain ⟨f00, f01, f02⟩ := cells3 H.out.2.1.ab
                obtain ⟨f10, f11, f12⟩ := cells3 H.out.2.2.1.ab
                obtain ⟨f20, f21, f22⟩ := cells3 H.out.2.2.2.1.ab
                go_wp2_with fail
                refine (iLsValid_any h now len _).mono ?_
                rintro e w6 ⟨rfl, bb⟩
                have H := Lib.hid (show Below w.heap.size w w6 ∧ AF3 w6 w1.heap.size h s n ∧ AF3 w6 w2.heap.size h now len ∧ AF3 w6 w3.heap.size h now len ∧  True from ⟨below_step H.out.1 bb, H.out.2.1.below bb, H.out.2.2.1.below bb, H.out.2.2.2.1.below bb,  True.intro⟩)
                clear bb
                first | clear f00 f01 f02 f10 f11 f12 f20 f21 f22 | skip
                rw [HW.out]
                go_wp2
                go_ret
                exact ⟨by first | rfl | simp_all, H.out.1⟩
            · have a0 : (h == h') = false := by simpa using q
              have hx : extBy h s n h' now len = false := by simp [extBy, Ne.symm q]
              have HR := Lib.hid (er.trans (gr0_exp he))
              clear hx er he
              have H := Lib.hid (show Below w.heap.size w (w1.alloc (.cells #[.int .i64 h, .int .i64 s, .int .i64 n] 24)) ∧  AF3 (w1.alloc (.cells #[.int .i64 h, .int .i64 s, .int .i64 n] 24)) w1.heap.size h s n ∧ True from ⟨H.out.1.alloc H.out.1.size _,  AF3.new w1 h s n 24, True.intro⟩)
              obtain ⟨f00, f01, f02⟩ := cells3 H.out.2.1.ab
              go_wp2_with fail
              refine (sLsGr_any h s n h' now len d _).mono ?_
              rintro e w2 ⟨rfl, bb⟩
              have H := Lib.hid (show Below w.heap.size w w2 ∧ AF3 w2 w1.heap.size h s n ∧  True from ⟨below_step H.out.1 bb, H.out.2.1.below bb,  True.intro⟩)
              clear bb
              first | clear f00 f01 f02 | skip
              rw [HR.out]
              simp only [Ac.val, AVal]
              have H := Lib.hid (show Below w.heap.size w (w2.alloc (.cells #[.int .i64 h', .int .i64 now, .int .i64 len] 24)) ∧ AF3 (w2.alloc (.cells #[.int .i64 h', .int .i64 now, .int .i64 len] 24)) w1.heap.size h s n ∧  AF3 (w2.alloc (.cells #[.int .i64 h', .int .i64 now, .int .i64 len] 24)) w2.heap.size h' now len ∧ True from ⟨H.out.1.alloc H.out.1.size _, H.out.2.1.alloc _,  AF3.new w2 h' now len 24, True.intro⟩)
              obtain ⟨f00, f01, f02⟩ := cells3 H.out.2.1.ab
              obtain ⟨f10, f11, f12⟩ := cells3 H.out.2.2.1.ab
              go_wp2_with fail
              refine (iLsGr_any h s n h' now len d _).mono ?_
              rintro e w3 ⟨rfl, bb⟩
              have H := Lib.hid (show Below w.heap.size w w3 ∧ AF3 w3 w1.heap.size h s n ∧ AF3 w3 w2.heap.size h' now len ∧  True from ⟨below_step H.out.1 bb, H.out.2.1.below bb, H.out.2.2.1.below bb,  True.intro⟩)
              clear bb
              first | clear f00 f01 f02 f10 f11 f12 | skip
              rw [HR.out]
              simp only [Ac.val, AVal]
              have H := Lib.hid (show Below w.heap.size w (w3.alloc (.cells #[.int .i64 h', .int .i64 now, .int .i64 len] 24)) ∧ AF3 (w3.alloc (.cells #[.int .i64 h', .int .i64 now, .int .i64 len] 24)) w1.heap.size h s n ∧ AF3 (w3.alloc (.cells #[.int .i64 h', .int .i64 now, .int .i64 len] 24)) w2.heap.size h' now len ∧  AF3 (w3.alloc (.cells #[.int .i64 h', .int .i64 now, .int .i64 len] 24)) w3.heap.size h' now len ∧ True from ⟨H.out.1.alloc H.out.1.size _, H.out.2.1.alloc _, H.out.2.2.1.alloc _,  AF3.new w3 h' now len 24, True.intro⟩)
              obtain ⟨f00, f01, f02⟩ := cells3 H.out.2.1.ab
              obtain ⟨f10, f11, f12⟩ := cells3 H.out.2.2.1.ab
              obtain ⟨f20, f21, f22⟩ := cells3 H.out.2.2.2.1.ab
              go_wp2_with fail
              refine (sLsValid_any h s n _).mono ?_
              rintro e w4 ⟨rfl, bb⟩
              have H := Lib.hid (show Below w.heap.size w w4 ∧ AF3 w4 w1.heap.size h s n ∧ AF3 w4 w2.heap.size h' now len ∧ AF3 w4 w3.heap.size h' now len ∧  True from ⟨below_step H.out.1 bb, H.out.2.1.below bb, H.out.2.2.1.below bb, H.out.2.2.2.1.below bb,  True.intro⟩)
              clear bb
              first | clear f00 f01 f02 f10 f11 f12 f20 f21 f22 | skip
              rw [HV.out]
              obtain ⟨f00, f01, f02⟩ := cells3 H.out.2.1.ab
              obtain ⟨f10, f11, f12⟩ := cells3 H.out.2.2.1.ab
              obtain ⟨f20, f21, f22⟩ := cells3 H.out.2.2.2.1.ab
              go_wp2_with fail
              refine (iLsExp_any h s n now d _).mono ?_
              rintro e w5 ⟨rfl, bb⟩
              have H := Lib.hid (show Below w.heap.size w w5 ∧ AF3 w5 w1.heap.size h s n ∧ AF3 w5 w2.heap.size h' now len ∧ AF3 w5 w3.heap.size h' now len ∧  True from ⟨below_step H.out.1 bb, H.out.2.1.below bb, H.out.2.2.1.below bb, H.out.2.2.2.1.below bb,  True.intro⟩)
              clear bb
              first | clear f00 f01 f02 f10 f11 f12 f20 f21 f22 | skip
              rw [HE.out]
              obtain ⟨f00, f01, f02⟩ := cells3 H.out.2.1.ab
              obtain ⟨f10, f11, f12⟩ := cells3 H.out.2.2.1.ab
              obtain ⟨f20, f21, f22⟩ := cells3 H.out.2.2.2.1.ab
              go_wp2_with fail
              refine (iLsValid_any h' now len _).mono ?_
              rintro e w6 ⟨rfl, bb⟩
              have H := Lib.hid (show Below w.heap.size w w6 ∧ AF3 w6 w1.heap.size h s n ∧ AF3 w6 w2.heap.size h' now len ∧ AF3 w6 w3.heap.size h' now len ∧  True from ⟨below_step H.out.1 bb, H.out.2.1.below bb, H.out.2.2.1.below bb, H.out.2.2.2.1.below bb,  True.intro⟩)
              clear bb
              first | clear f00 f01 f02 f10 f11 f12 f20 f21 f22 | skip
              rw [HW.out]
              go_wp2
              go_ret
              exact ⟨by first | rfl | simp_all, H.out.1⟩
          · rw [Bool.not_eq_true] at he
            have HE := Lib.hid (ee.trans he)
            clear ee hv
            by_cases q : h = h'
            · subst q
              by_cases q1 : s ≤ now
              · have a1 : decide (s ≤ now) = true := by simpa using q1
                by_cases q2 : s + n ≤ now + len
                · have a2 : decide (s + n ≤ now + len) = true := by simpa using q2
                  have hx : extBy h s n h now len = true := by simp [extBy, q1, q2]
                  clear q1 q2
                  have HR := Lib.hid (er.trans (gr0_ext hx))
                  clear hx er he
                  have H := Lib.hid (show Below w.heap.size w (w1.alloc (.cells #[.int .i64 h, .int .i64 s, .int .i64 n] 24)) ∧  AF3 (w1.alloc (.cells #[.int .i64 h, .int .i64 s, .int .i64 n] 24)) w1.heap.size h s n ∧ True from ⟨H.out.1.alloc H.out.1.size _,  AF3.new w1 h s n 24, True.intro⟩)
                  obtain ⟨f00, f01, f02⟩ := cells3 H.out.2.1.ab
                  go_wp2_with fail
                  refine (sLsGr_any h s n h now len d _).mono ?_
                  rintro e w2 ⟨rfl, bb⟩
                  have H := Lib.hid (show Below w.heap.size w w2 ∧ AF3 w2 w1.heap.size h s n ∧  True from ⟨below_step H.out.1 bb, H.out.2.1.below bb,  True.intro⟩)
                  clear bb
                  first | clear f00 f01 f02 | skip
                  rw [HR.out]
                  simp only [Ac.val, AVal]
                  have H := Lib.hid (show Below w.heap.size w (w2.alloc (.cells #[.int .i64 h, .int .i64 now, .int .i64 len] 24)) ∧ AF3 (w2.alloc (.cells #[.int .i64 h, .int .i64 now, .int .i64 len] 24)) w1.heap.size h s n ∧  AF3 (w2.alloc (.cells #[.int .i64 h, .int .i64 now, .int .i64 len] 24)) w2.heap.size h now len ∧ True from ⟨H.out.1.alloc H.out.1.size _, H.out.2.1.alloc _,  AF3.new w2 h now len 24, True.intro⟩)
                  obtain ⟨f00, f01, f02⟩ := cells3 H.out.2.1.ab
                  obtain ⟨f10, f11, f12⟩ := cells3 H.out.2.2.1.ab
                  go_wp2_with fail
                  refine (iLsGr_any h s n h now len d _).mono ?_
                  rintro e w3 ⟨rfl, bb⟩
                  have H := Lib.hid (show Below w.heap.size w w3 ∧ AF3 w3 w1.heap.size h s n ∧ AF3 w3 w2.heap.size h now len ∧  True from ⟨below_step H.out.1 bb, H.out.2.1.below bb, H.out.2.2.1.below bb,  True.intro⟩)
                  clear bb
                  first | clear f00 f01 f02 f10 f11 f12 | skip
                  rw [HR.out]
                  simp only [Ac.val, AVal]
                  have H := Lib.hid (show Below w.heap.size w (w3.alloc (.cells #[.int .i64 h, .int .i64 now, .int .i64 len] 24)) ∧ AF3 (w3.alloc (.cells #[.int .i64 h, .int .i64 now, .int .i64 len] 24)) w1.heap.size h s n ∧ AF3 (w3.alloc (.cells #[.int .i64 h, .int .i64 now, .int .i64 len] 24)) w2.heap.size h now len ∧  AF3 (w3.alloc (.cells #[.int .i64 h, .int .i64 now, .int .i64 len] 24)) w3.heap.size h now len ∧ True from ⟨H.out.1.alloc H.out.1.size _, H.out.2.1.alloc _, H.out.2.2.1.alloc _,  AF3.new w3 h now len 24, True.intro⟩)
                  obtain ⟨f00, f01, f02⟩ := cells3 H.out.2.1.ab
                  obtain ⟨f10, f11, f12⟩ := cells3 H.out.2.2.1.ab
                  obtain ⟨f20, f21, f22⟩ := cells3 H.out.2.2.2.1.ab
                  go_wp2_with fail
                  refine (sLsValid_any h s n _).mono ?_
                  rintro e w4 ⟨rfl, bb⟩
                  have H := Lib.hid (show Below w.heap.size w w4 ∧ AF3 w4 w1.heap.size h s n ∧ AF3 w4 w2.heap.size h now len ∧ AF3 w4 w3.heap.size h now len ∧  True from ⟨below_step H.out.1 bb, H.out.2.1.below bb, H.out.2.2.1.below bb, H.out.2.2.2.1.below bb,  True.intro⟩)
                  clear bb
                  first | clear f00 f01 f02 f10 f11 f12 f20 f21 f22 | skip
                  rw [HV.out]
                  obtain ⟨f00, f01, f02⟩ := cells3 H.out.2.1.ab
                  obtain ⟨f10, f11, f12⟩ := cells3 H.out.2.2.1.ab
                  obtain ⟨f20, f21, f22⟩ := cells3 H.out.2.2.2.1.ab
                  go_wp2_with fail
                  refine (iLsValid_any h now len _).mono ?_
                  rintro e w5 ⟨rfl, bb⟩
                  have H := Lib.hid (show Below w.heap.size w w5 ∧ AF3 w5 w1.heap.size h s n ∧ AF3 w5 w2.heap.size h now len ∧ AF3 w5 w3.heap.size h now len ∧  True from ⟨below_step H.out.1 bb, H.out.2.1.below bb, H.out.2.2.1.below bb, H.out.2.2.2.1.below bb,  True.intro⟩)
                  clear bb
                  first | clear f00 f01 f02 f10 f11 f12 f20 f21 f22 | skip
                  rw [HW.out]
                  go_wp2
                  go_ret
                  exact ⟨by first | rfl | simp_all, H.out.1⟩
                · have a2 : decide (s + n ≤ now + len) = false := by simpa using q2
                  have hx : extBy h s n h now len = false := by simp [extBy, q2]
                  clear q1 q2
                  have HR := Lib.hid (er.trans (gr0_no he hx))
                  clear hx er he
                  have H := Lib.hid (show Below w.heap.size w (w1.alloc (.cells #[.int .i64 h, .int .i64 s, .int .i64 n] 24)) ∧  AF3 (w1.alloc (.cells #[.int .i64 h, .int .i64 s, .int .i64 n] 24)) w1.heap.size h s n ∧ True from ⟨H.out.1.alloc H.out.1.size _,  AF3.new w1 h s n 24, True.intro⟩)
                  obtain ⟨f00, f01, f02⟩ := cells3 H.out.2.1.ab
                  go_wp2_with fail
                  refine (sLsGr_any h s n h now len d _).mono ?_
                  rintro e w2 ⟨rfl, bb⟩
                  have H := Lib.hid (show Below w.heap.size w w2 ∧ AF3 w2 w1.heap.size h s n ∧  True from ⟨below_step H.out.1 bb, H.out.2.1.below bb,  True.intro⟩)
                  clear bb
                  first | clear f00 f01 f02 | skip
                  rw [HR.out]
                  simp only [Ac.val, AVal]
                  have H := Lib.hid (show Below w.heap.size w (w2.alloc (.cells #[.int .i64 h, .int .i64 s, .int .i64 n] 24)) ∧ AF3 (w2.alloc (.cells #[.int .i64 h, .int .i64 s, .int .i64 n] 24)) w1.heap.size h s n ∧  AF3 (w2.alloc (.cells #[.int .i64 h, .int .i64 s, .int .i64 n] 24)) w2.heap.size h s n ∧ True from ⟨H.out.1.alloc H.out.1.size _, H.out.2.1.alloc _,  AF3.new w2 h s n 24, True.intro⟩)
                  obtain ⟨f00, f01, f02⟩ := cells3 H.out.2.1.ab
                  obtain ⟨f10, f11, f12⟩ := cells3 H.out.2.2.1.ab
                  go_wp2_with fail
                  refine (iLsGr_any h s n h now len d _).mono ?_
                  rintro e w3 ⟨rfl, bb⟩
                  have H := Lib.hid (show Below w.heap.size w w3 ∧ AF3 w3 w1.heap.size h s n ∧ AF3 w3 w2.heap.size h s n ∧  True from ⟨below_step H.out.1 bb, H.out.2.1.below bb, H.out.2.2.1.below bb,  True.intro⟩)
                  clear bb
                  first | clear f00 f01 f02 f10 f11 f12 | skip
                  rw [HR.out]
                  simp only [Ac.val, AVal]
                  have H := Lib.hid (show Below w.heap.size w (w3.alloc (.cells #[.int .i64 h, .int .i64 s, .int .i64 n] 24)) ∧ AF3 (w3.alloc (.cells #[.int .i64 h, .int .i64 s, .int .i64 n] 24)) w1.heap.size h s n ∧ AF3 (w3.alloc (.cells #[.int .i64 h, .int .i64 s, .int .i64 n] 24)) w2.heap.size h s n ∧  AF3 (w3.alloc (.cells #[.int .i64 h, .int .i64 s, .int .i64 n] 24)) w3.heap.size h s n ∧ True from ⟨H.out.1.alloc H.out.1.size _, H.out.2.1.alloc _, H.out.2.2.1.alloc _,  AF3.new w3 h s n 24, True.intro⟩)
                  obtain ⟨f00, f01, f02⟩ := cells3 H.out.2.1.ab
                  obtain ⟨f10, f11, f12⟩ := cells3 H.out.2.2.1.ab
                  obtain ⟨f20, f21, f22⟩ := cells3 H.out.2.2.2.1.ab
                  go_wp2_with fail
                  refine (sLsValid_any h s n _).mono ?_
                  rintro e w4 ⟨rfl, bb⟩
                  have H := Lib.hid (show Below w.heap.size w w4 ∧ AF3 w4 w1.heap.size h s n ∧ AF3 w4 w2.heap.size h s n ∧ AF3 w4 w3.heap.size h s n ∧  True from ⟨below_step H.out.1 bb, H.out.2.1.below bb, H.out.2.2.1.below bb, H.out.2.2.2.1.below bb,  True.intro⟩)
                  clear bb
                  first | clear f00 f01 f02 f10 f11 f12 f20 f21 f22 | skip
                  rw [HV.out]
                  obtain ⟨f00, f01, f02⟩ := cells3 H.out.2.1.ab
                  obtain ⟨f10, f11, f12⟩ := cells3 H.out.2.2.1.ab
                  obtain ⟨f20, f21, f22⟩ := cells3 H.out.2.2.2.1.ab
                  go_wp2_with fail
                  refine (iLsExp_any h s n now d _).mono ?_
                  rintro e w5 ⟨rfl, bb⟩
                  have H := Lib.hid (show Below w.heap.size w w5 ∧ AF3 w5 w1.heap.size h s n ∧ AF3 w5 w2.heap.size h s n ∧ AF3 w5 w3.heap.size h s n ∧  True from ⟨below_step H.out.1 bb, H.out.2.1.below bb, H.out.2.2.1.below bb, H.out.2.2.2.1.below bb,  True.intro⟩)
                  clear bb
                  first | clear f00 f01 f02 f10 f11 f12 f20 f21 f22 | skip
                  rw [HE.out]
                  go_wp2
                  go_ret
                  exact ⟨by first | rfl | simp_all, H.out.1⟩
              · have a1 : decide (s ≤ now) = false := by simpa using q1
                have hx : extBy h s n h now len = false := by simp [extBy, q1]
                clear q1
                have HR := Lib.hid (er.trans (gr0_no he hx))
                clear hx er he
                have H := Lib.hid (show Below w.heap.size w (w1.alloc (.cells #[.int .i64 h, .int .i64 s, .int .i64 n] 24)) ∧  AF3 (w1.alloc (.cells #[.int .i64 h, .int .i64 s, .int .i64 n] 24)) w1.heap.size h s n ∧ True from ⟨H.out.1.alloc H.out.1.size _,  AF3.new w1 h s n 24, True.intro⟩)
                obtain ⟨f00, f01, f02⟩ := cells3 H.out.2.1.ab
                go_wp2_with fail
                refine (sLsGr_any h s n h now len d _).mono ?_
                rintro e w2 ⟨rfl, bb⟩
                have H := Lib.hid (show Below w.heap.size w w2 ∧ AF3 w2 w1.heap.size h s n ∧  True from ⟨below_step H.out.1 bb, H.out.2.1.below bb,  True.intro⟩)
                clear bb
                first | clear f00 f01 f02 | skip
                rw [HR.out]
                simp only [Ac.val, AVal]
                have H := Lib.hid (show Below w.heap.size w (w2.alloc (.cells #[.int .i64 h, .int .i64 s, .int .i64 n] 24)) ∧ AF3 (w2.alloc (.cells #[.int .i64 h, .int .i64 s, .int .i64 n] 24)) w1.heap.size h s n ∧  AF3 (w2.alloc (.cells #[.int .i64 h, .int .i64 s, .int .i64 n] 24)) w2.heap.size h s n ∧ True from ⟨H.out.1.alloc H.out.1.size _, H.out.2.1.alloc _,  AF3.new w2 h s n 24, True.intro⟩)
                obtain ⟨f00, f01, f02⟩ := cells3 H.out.2.1.ab
                obtain ⟨f10, f11, f12⟩ := cells3 H.out.2.2.1.ab
                go_wp2_with fail
                refine (iLsGr_any h s n h now len d _).mono ?_
                rintro e w3 ⟨rfl, bb⟩
                have H := Lib.hid (show Below w.heap.size w w3 ∧ AF3 w3 w1.heap.size h s n ∧ AF3 w3 w2.heap.size h s n ∧  True from ⟨below_step H.out.1 bb, H.out.2.1.below bb, H.out.2.2.1.below bb,  True.intro⟩)
                clear bb
                first | clear f00 f01 f02 f10 f11 f12 | skip
                rw [HR.out]
                simp only [Ac.val, AVal]
                have H := Lib.hid (show Below w.heap.size w (w3.alloc (.cells #[.int .i64 h, .int .i64 s, .int .i64 n] 24)) ∧ AF3 (w3.alloc (.cells #[.int .i64 h, .int .i64 s, .int .i64 n] 24)) w1.heap.size h s n ∧ AF3 (w3.alloc (.cells #[.int .i64 h, .int .i64 s, .int .i64 n] 24)) w2.heap.size h s n ∧  AF3 (w3.alloc (.cells #[.int .i64 h, .int .i64 s, .int .i64 n] 24)) w3.heap.size h s n ∧ True from ⟨H.out.1.alloc H.out.1.size _, H.out.2.1.alloc _, H.out.2.2.1.alloc _,  AF3.new w3 h s n 24, True.intro⟩)
                obtain ⟨f00, f01, f02⟩ := cells3 H.out.2.1.ab
                obtain ⟨f10, f11, f12⟩ := cells3 H.out.2.2.1.ab
                obtain ⟨f20, f21, f22⟩ := cells3 H.out.2.2.2.1.ab
                go_wp2_with fail
                refine (sLsValid_any h s n _).mono ?_
                rintro e w4 ⟨rfl, bb⟩
                have H := Lib.hid (show Below w.heap.size w w4 ∧ AF3 w4 w1.heap.size h s n ∧ AF3 w4 w2.heap.size h s n ∧ AF3 w4 w3.heap.size h s n ∧  True from ⟨below_step H.out.1 bb, H.out.2.1.below bb, H.out.2.2.1.below bb, H.out.2.2.2.1.below bb,  True.intro⟩)
                clear bb
                first | clear f00 f01 f02 f10 f11 f12 f20 f21 f22 | skip
                rw [HV.out]
                obtain ⟨f00, f01, f02⟩ := cells3 H.out.2.1.ab
                obtain ⟨f10, f11, f12⟩ := cells3 H.out.2.2.1.ab
                obtain ⟨f20, f21, f22⟩ := cells3 H.out.2.2.2.1.ab
                go_wp2_with fail
                refine (iLsExp_any h s n now d _).mono ?_
                rintro e w5 ⟨rfl, bb⟩
                have H := Lib.hid (show Below w.heap.size w w5 ∧ AF3 w5 w1.heap.size h s n ∧ AF3 w5 w2.heap.size h s n ∧ AF3 w5 w3.heap.size h s n ∧  True from ⟨below_step H.out.1 bb, H.out.2.1.below bb, H.out.2.2.1.below bb, H.out.2.2.2.1.below bb,  True.intro⟩)
                clear bb
                first | clear f00 f01 f02 f10 f11 f12 f20 f21 f22 | skip
                rw [HE.out]
                go_wp2
                go_ret
                exact ⟨by first | rfl | simp_all, H.out.1⟩
            · have a0 : (h == h') = false := by simpa using q
              have hx : extBy h s n h' now len = false := by simp [extBy, Ne.symm q]
              have HR := Lib.hid (er.trans (gr0_no he hx))
              clear hx er he
              have H := Lib.hid (show Below w.heap.size w (w1.alloc (.cells #[.int .i64 h, .int .i64 s, .int .i64 n] 24)) ∧  AF3 (w1.alloc (.cells #[.int .i64 h, .int .i64 s, .int .i64 n] 24)) w1.heap.size h s n ∧ True from ⟨H.out.1.alloc H.out.1.size _,  AF3.new w1 h s n 24, True.intro⟩)
              obtain ⟨f00, f01, f02⟩ := cells3 H.out.2.1.ab
              go_wp2_with fail
              refine (sLsGr_any h s n h' now len d _).mono ?_
              rintro e w2 ⟨rfl, bb⟩
              have H := Lib.hid (show Below w.heap.size w w2 ∧ AF3 w2 w1.heap.size h s n ∧  True from ⟨below_step H.out.1 bb, H.out.2.1.below bb,  True.intro⟩)
              clear bb
              first | clear f00 f01 f02 | skip
              rw [HR.out]
              simp only [Ac.val, AVal]
              have H := Lib.hid (show Below w.heap.size w (w2.alloc (.cells #[.int .i64 h, .int .i64 s, .int .i64 n] 24)) ∧ AF3 (w2.alloc (.cells #[.int .i64 h, .int .i64 s, .int .i64 n] 24)) w1.heap.size h s n ∧  AF3 (w2.alloc (.cells #[.int .i64 h, .int .i64 s, .int .i64 n] 24)) w2.heap.size h s n ∧ True from ⟨H.out.1.alloc H.out.1.size _, H.out.2.1.alloc _,  AF3.new w2 h s n 24, True.intro⟩)
              obtain ⟨f00, f01, f02⟩ := cells3 H.out.2.1.ab
              obtain ⟨f10, f11, f12⟩ := cells3 H.out.2.2.1.ab
              go_wp2_with fail
              refine (iLsGr_any h s n h' now len d _).mono ?_
              rintro e w3 ⟨rfl, bb⟩
              have H := Lib.hid (show Below w.heap.size w w3 ∧ AF3 w3 w1.heap.size h s n ∧ AF3 w3 w2.heap.size h s n ∧  True from ⟨below_step H.out.1 bb, H.out.2.1.below bb, H.out.2.2.1.below bb,  True.intro⟩)
              clear bb
              first | clear f00 f01 f02 f10 f11 f12 | skip
              rw [HR.out]
              simp only [Ac.val, AVal]
              have H := Lib.hid (show Below w.heap.size w (w3.alloc (.cells #[.int .i64 h, .int .i64 s, .int .i64 n] 24)) ∧ AF3 (w3.alloc (.cells #[.int .i64 h, .int .i64 s, .int .i64 n] 24)) w1.heap.size h s n ∧ AF3 (w3.alloc (.cells #[.int .i64 h, .int .i64 s, .int .i64 n] 24)) w2.heap.size h s n ∧  AF3 (w3.alloc (.cells #[.int .i64 h, .int .i64 s, .int .i64 n] 24)) w3.heap.size h s n ∧ True from ⟨H.out.1.alloc H.out.1.size _, H.out.2.1.alloc _, H.out.2.2.1.alloc _,  AF3.new w3 h s n 24, True.intro⟩)
              obtain ⟨f00, f01, f02⟩ := cells3 H.out.2.1.ab
              obtain ⟨f10, f11, f12⟩ := cells3 H.out.2.2.1.ab
              obtain ⟨f20, f21, f22⟩ := cells3 H.out.2.2.2.1.ab
              go_wp2_with fail
              refine (sLsValid_any h s n _).mono ?_
              rintro e w4 ⟨rfl, bb⟩
              have H := Lib.hid (show Below w.heap.size w w4 ∧ AF3 w4 w1.heap.size h s n ∧ AF3 w4 w2.heap.size h s n ∧ AF3 w4 w3.heap.size h s n ∧  True from ⟨below_step H.out.1 bb, H.out.2.1.below bb, H.out.2.2.1.below bb, H.out.2.2.2.1.below bb,  True.intro⟩)
              clear bb
              first | clear f00 f01 f02 f10 f11 f12 f20 f21 f22 | skip
              rw [HV.out]
              obtain ⟨f00, f01, f02⟩ := cells3 H.out.2.1.ab
              obtain ⟨f10, f11, f12⟩ := cells3 H.out.2.2.1.ab
              obtain ⟨f20, f21, f22⟩ := cells3 H.out.2.2.2.1.ab
              go_wp2_with fail
              refine (iLsExp_any h s n now d _).mono ?_
              rintro e w5 ⟨rfl, bb⟩
              have H := Lib.hid (show Below w.heap.size w w5 ∧ AF3 w5 w1.heap.size h s n ∧ AF3 w5 w2.heap.size h s n ∧ AF3 w5 w3.heap.size h s n ∧  True from ⟨below_step H.out.1 bb, H.out.2.1.below bb, H.out.2.2.1.below bb, H.out.2.2.2.1.below bb,  True.intro⟩)
              clear bb
              first | clear f00 f01 f02 f10 f11 f12 f20 f21 f22 | skip
              rw [HE.out]
              go_wp2
              go_ret
              exact ⟨by first | rfl | simp_all, H.out.1⟩
    · rw [Bool.not_eq_true] at hv
      have HV := Lib.hid hv
      clear hv
      obtain ⟨⟨⟨P, A, V⟩, t⟩, hr⟩ : ∃ r, lGr h s n h' now len d = r := ⟨_, rfl⟩
      have HR := Lib.hid hr
      clear hr
      have H := Lib.hid (show Below w.heap.size w (w1.alloc (.cells #[.int .i64 h, .int .i64 s, .int .i64 n] 24)) ∧  AF3 (w1.alloc (.cells #[.int .i64 h, .int .i64 s, .int .i64 n] 24)) w1.heap.size h s n ∧ True from ⟨H.out.1.alloc H.out.1.size _,  AF3.new w1 h s n 24, True.intro⟩)
      obtain ⟨f00, f01, f02⟩ := cells3 H.out.2.1.ab
      go_wp2_with fail
      refine (sLsGr_any h s n h' now len d _).mono ?_
      rintro e w2 ⟨rfl, bb⟩
      have H := Lib.hid (show Below w.heap.size w w2 ∧ AF3 w2 w1.heap.size h s n ∧  True from ⟨below_step H.out.1 bb, H.out.2.1.below bb,  True.intro⟩)
      clear bb
      first | clear f00 f01 f02 | skip
      rw [HR.out]
      simp only [Ac.val, AVal]
      have H := Lib.hid (show Below w.heap.size w (w2.alloc (.cells #[.int .i64 P, .int .i64 A, .int .i64 V] 24)) ∧ AF3 (w2.alloc (.cells #[.int .i64 P, .int .i64 A, .int .i64 V] 24)) w1.heap.size h s n ∧  AF3 (w2.alloc (.cells #[.int .i64 P, .int .i64 A, .int .i64 V] 24)) w2.heap.size P A V ∧ True from ⟨H.out.1.alloc H.out.1.size _, H.out.2.1.alloc _,  AF3.new w2 P A V 24, True.intro⟩)
      obtain ⟨f00, f01, f02⟩ := cells3 H.out.2.1.ab
      obtain ⟨f10, f11, f12⟩ := cells3 H.out.2.2.1.ab
      go_wp2_with fail
      refine (iLsGr_any h s n h' now len d _).mono ?_
      rintro e w3 ⟨rfl, bb⟩
      have H := Lib.hid (show Below w.heap.size w w3 ∧ AF3 w3 w1.heap.size h s n ∧ AF3 w3 w2.heap.size P A V ∧  True from ⟨below_step H.out.1 bb, H.out.2.1.below bb, H.out.2.2.1.below bb,  True.intro⟩)
      clear bb
      first | clear f00 f01 f02 f10 f11 f12 | skip
      rw [HR.out]
      simp only [Ac.val, AVal]
      have H := Lib.hid (show Below w.heap.size w (w3.alloc (.cells #[.int .i64 P, .int .i64 A, .int .i64 V] 24)) ∧ AF3 (w3.alloc (.cells #[.int .i64 P, .int .i64 A, .int .i64 V] 24)) w1.heap.size h s n ∧ AF3 (w3.alloc (.cells #[.int .i64 P, .int .i64 A, .int .i64 V] 24)) w2.heap.size P A V ∧  AF3 (w3.alloc (.cells #[.int .i64 P, .int .i64 A, .int .i64 V] 24)) w3.heap.size P A V ∧ True from ⟨H.out.1.alloc H.out.1.size _, H.out.2.1.alloc _, H.out.2.2.1.alloc _,  AF3.new w3 P A V 24, True.intro⟩)
      obtain ⟨f00, f01, f02⟩ := cells3 H.out.2.1.ab
      obtain ⟨f10, f11, f12⟩ := cells3 H.out.2.2.1.ab
      obtain ⟨f20, f21, f22⟩ := cells3 H.out.2.2.2.1.ab
      go_wp2_with fail
      refine (sLsValid_any h s n _).mono ?_
      rintro e w4 ⟨rfl, bb⟩
      have H := Lib.hid (show Below w.heap.size w w4 ∧ AF3 w4 w1.heap.size h s n ∧ AF3 w4 w2.heap.size P A V ∧ AF3 w4 w3.heap.size P A V ∧  True from ⟨below_step H.out.1 bb, H.out.2.1.below bb, H.out.2.2.1.below bb, H.out.2.2.2.1.below bb,  True.intro⟩)
      clear bb
      first | clear f00 f01 f02 f10 f11 f12 f20 f21 f22 | skip
      rw [HV.out]
      obtain ⟨f00, f01, f02⟩ := cells3 H.out.2.1.ab
      obtain ⟨f10, f11, f12⟩ := cells3 H.out.2.2.1.ab
      obtain ⟨f20, f21, f22⟩ := cells3 H.out.2.2.2.1.ab
      go_wp2
      go_ret
      exact ⟨by first | rfl | simp_all, H.out.1⟩
  · skip
    go_enter Try.func6, Try.ntmps6
    go_wp2
    go_ret
    exact ⟨rfl, Below.refl _ w⟩

set_option linter.unusedVariables false in
set_option maxRecDepth 100000 in
set_option maxHeartbeats 3200000 in
theorem walkLsHand (A A' : Option Addr) (c c' : Nat) (l l' : List Int) (w : World) (ha : BL w A l) (hc : l.length ≤ c) (hm : l.length ≤ maxLen) (hmc : c ≤ maxLen) (ha' : BL w A' l') (hc' : l'.length ≤ c') (hm' : l'.length ≤ maxLen) (hmc' : c' ≤ maxLen) :
    Calls Try.prog 7 #[.slice A l.length c, .slice A' l'.length c'] w fun e w' => e = .returned (.bool true) ∧ Below w.heap.size w w' := by
  have hm1 := hm
  unfold maxLen at hm1
  have hm2 := hm'
  unfold maxLen at hm2
  by_cases hl : l.length ≤ 1048576
  · by_cases hl' : l'.length ≤ 1048576
    · clear ha' hc' hm' hmc'
      go_enter Try.func7, Try.ntmps7
      go_wp2_with fail
      refine (drawLG_any _ _ _ _ ha hc hm hmc).mono ?_
      rintro e w1 ⟨h, s, n, h', now, len, d, h0, h1, s0, s1, n0, n1, h0', h1', t0, t1, l0, l1, d0, d1, rfl, B1⟩
      clear ha hm hc hmc
      unfold AVal
      have H := Lib.hid (show Below w.heap.size w w1 ∧ True from ⟨B1, True.intro⟩)
      clear B1
      by_cases hv : lsOk h s n = true
      · have HV := Lib.hid hv
        by_cases hn : now < 0
        · have g1 : decide (now < 0) = true := by simpa using hn
          clear hv hn
          obtain ⟨⟨⟨P, A, V⟩, t⟩, hr⟩ : ∃ r, lGr h s n h' now len d = r := ⟨_, rfl⟩
          have HR := Lib.hid hr
          clear hr
          have H := Lib.hid (show Below w.heap.size w (w1.alloc (.cells #[.int .i64 h, .int .i64 s, .int .i64 n] 24)) ∧  AF3 (w1.alloc (.cells #[.int .i64 h, .int .i64 s, .int .i64 n] 24)) w1.heap.size h s n ∧ True from ⟨H.out.1.alloc H.out.1.size _,  AF3.new w1 h s n 24, True.intro⟩)
          obtain ⟨f00, f01, f02⟩ := cells3 H.out.2.1.ab
          go_wp2_with fail
          refine (sLsGr_any h s n h' now len d _).mono ?_
          rintro e w2 ⟨rfl, bb⟩
          have H := Lib.hid (show Below w.heap.size w w2 ∧ AF3 w2 w1.heap.size h s n ∧  True from ⟨below_step H.out.1 bb, H.out.2.1.below bb,  True.intro⟩)
          clear bb
          first | clear f00 f01 f02 | skip
          rw [HR.out]
          simp only [Ac.val, AVal]
          have H := Lib.hid (show Below w.heap.size w (w2.alloc (.cells #[.int .i64 P, .int .i64 A, .int .i64 V] 24)) ∧ AF3 (w2.alloc (.cells #[.int .i64 P, .int .i64 A, .int .i64 V] 24)) w1.heap.size h s n ∧  AF3 (w2.alloc (.cells #[.int .i64 P, .int .i64 A, .int .i64 V] 24)) w2.heap.size P A V ∧ True from ⟨H.out.1.alloc H.out.1.size _, H.out.2.1.alloc _,  AF3.new w2 P A V 24, True.intro⟩)
          obtain ⟨f00, f01, f02⟩ := cells3 H.out.2.1.ab
          obtain ⟨f10, f11, f12⟩ := cells3 H.out.2.2.1.ab
          go_wp2_with fail
          refine (iLsGr_any h s n h' now len d _).mono ?_
          rintro e w3 ⟨rfl, bb⟩
          have H := Lib.hid (show Below w.heap.size w w3 ∧ AF3 w3 w1.heap.size h s n ∧ AF3 w3 w2.heap.size P A V ∧  True from ⟨below_step H.out.1 bb, H.out.2.1.below bb, H.out.2.2.1.below bb,  True.intro⟩)
          clear bb
          first | clear f00 f01 f02 f10 f11 f12 | skip
          rw [HR.out]
          simp only [Ac.val, AVal]
          have H := Lib.hid (show Below w.heap.size w (w3.alloc (.cells #[.int .i64 P, .int .i64 A, .int .i64 V] 24)) ∧ AF3 (w3.alloc (.cells #[.int .i64 P, .int .i64 A, .int .i64 V] 24)) w1.heap.size h s n ∧ AF3 (w3.alloc (.cells #[.int .i64 P, .int .i64 A, .int .i64 V] 24)) w2.heap.size P A V ∧  AF3 (w3.alloc (.cells #[.int .i64 P, .int .i64 A, .int .i64 V] 24)) w3.heap.size P A V ∧ True from ⟨H.out.1.alloc H.out.1.size _, H.out.2.1.alloc _, H.out.2.2.1.alloc _,  AF3.new w3 P A V 24, True.intro⟩)
          obtain ⟨f00, f01, f02⟩ := cells3 H.out.2.1.ab
          obtain ⟨f10, f11, f12⟩ := cells3 H.out.2.2.1.ab
          obtain ⟨f20, f21, f22⟩ := cells3 H.out.2.2.2.1.ab
          go_wp2_with fail
          refine (sLsValid_any h s n _).mono ?_
          rintro e w4 ⟨rfl, bb⟩
          have H := Lib.hid (show Below w.heap.size w w4 ∧ AF3 w4 w1.heap.size h s n ∧ AF3 w4 w2.heap.size P A V ∧ AF3 w4 w3.heap.size P A V ∧  True from ⟨below_step H.out.1 bb, H.out.2.1.below bb, H.out.2.2.1.below bb, H.out.2.2.2.1.below bb,  True.intro⟩)
          clear bb
          first | clear f00 f01 f02 f10 f11 f12 f20 f21 f22 | skip
          rw [HV.out]
          obtain ⟨f00, f01, f02⟩ := cells3 H.out.2.1.ab
          obtain ⟨f10, f11, f12⟩ := cells3 H.out.2.2.1.ab
          obtain ⟨f20, f21, f22⟩ := cells3 H.out.2.2.2.1.ab
          go_wp2
          go_ret
          exact ⟨by first | rfl | simp_all, H.out.1⟩
        · have hn0 : 0 ≤ now := by omega
          have g1 : decide (now < 0) = false := by simpa using hn
          have g2 : decide (999 < now) = false := by simp; omega
          by_cases hd : d < 0
          · have g3 : decide (d < 0) = true := by simpa using hd
            clear hv hn hd
            obtain ⟨⟨⟨P, A, V⟩, t⟩, hr⟩ : ∃ r, lGr h s n h' now len d = r := ⟨_, rfl⟩
            have HR := Lib.hid hr
            clear hr
            have H := Lib.hid (show Below w.heap.size w (w1.alloc (.cells #[.int .i64 h, .int .i64 s, .int .i64 n] 24)) ∧  AF3 (w1.alloc (.cells #[.int .i64 h, .int .i64 s, .int .i64 n] 24)) w1.heap.size h s n ∧ True from ⟨H.out.1.alloc H.out.1.size _,  AF3.new w1 h s n 24, True.intro⟩)
            obtain ⟨f00, f01, f02⟩ := cells3 H.out.2.1.ab
            go_wp2_with fail
            refine (sLsGr_any h s n h' now len d _).mono ?_
            rintro e w2 ⟨rfl, bb⟩
            have H := Lib.hid (show Below w.heap.size w w2 ∧ AF3 w2 w1.heap.size h s n ∧  True from ⟨below_step H.out.1 bb, H.out.2.1.below bb,  True.intro⟩)
            clear bb
            first | clear f00 f01 f02 | skip
            rw [HR.out]
            simp only [Ac.val, AVal]
            have H := Lib.hid (show Below w.heap.size w (w2.alloc (.cells #[.int .i64 P, .int .i64 A, .int .i64 V] 24)) ∧ AF3 (w2.alloc (.cells #[.int .i64 P, .int .i64 A, .int .i64 V] 24)) w1.heap.size h s n ∧  AF3 (w2.alloc (.cells #[.int .i64 P, .int .i64 A, .int .i64 V] 24)) w2.heap.size P A V ∧ True from ⟨H.out.1.alloc H.out.1.size _, H.out.2.1.alloc _,  AF3.new w2 P A V 24, True.intro⟩)
            obtain ⟨f00, f01, f02⟩ := cells3 H.out.2.1.ab
            obtain ⟨f10, f11, f12⟩ := cells3 H.out.2.2.1.ab
            go_wp2_with fail
            refine (iLsGr_any h s n h' now len d _).mono ?_
            rintro e w3 ⟨rfl, bb⟩
            have H := Lib.hid (show Below w.heap.size w w3 ∧ AF3 w3 w1.heap.size h s n ∧ AF3 w3 w2.heap.size P A V ∧  True from ⟨below_step H.out.1 bb, H.out.2.1.below bb, H.out.2.2.1.below bb,  True.intro⟩)
            clear bb
            first | clear f00 f01 f02 f10 f11 f12 | skip
            rw [HR.out]
            simp only [Ac.val, AVal]
            have H := Lib.hid (show Below w.heap.size w (w3.alloc (.cells #[.int .i64 P, .int .i64 A, .int .i64 V] 24)) ∧ AF3 (w3.alloc (.cells #[.int .i64 P, .int .i64 A, .int .i64 V] 24)) w1.heap.size h s n ∧ AF3 (w3.alloc (.cells #[.int .i64 P, .int .i64 A, .int .i64 V] 24)) w2.heap.size P A V ∧  AF3 (w3.alloc (.cells #[.int .i64 P, .int .i64 A, .int .i64 V] 24)) w3.heap.size P A V ∧ True from ⟨H.out.1.alloc H.out.1.size _, H.out.2.1.alloc _, H.out.2.2.1.alloc _,  AF3.new w3 P A V 24, True.intro⟩)
            obtain ⟨f00, f01, f02⟩ := cells3 H.out.2.1.ab
            obtain ⟨f10, f11, f12⟩ := cells3 H.out.2.2.1.ab
            obtain ⟨f20, f21, f22⟩ := cells3 H.out.2.2.2.1.ab
            go_wp2_with fail
            refine (sLsValid_any h s n _).mono ?_
            rintro e w4 ⟨rfl, bb⟩
            have H := Lib.hid (show Below w.heap.size w w4 ∧ AF3 w4 w1.heap.size h s n ∧ AF3 w4 w2.heap.size P A V ∧ AF3 w4 w3.heap.size P A V ∧  True from ⟨below_step H.out.1 bb, H.out.2.1.below bb, H.out.2.2.1.below bb, H.out.2.2.2.1.below bb,  True.intro⟩)
            clear bb
            first | clear f00 f01 f02 f10 f11 f12 f20 f21 f22 | skip
            rw [HV.out]
            obtain ⟨f00, f01, f02⟩ := cells3 H.out.2.1.ab
            obtain ⟨f10, f11, f12⟩ := cells3 H.out.2.2.1.ab
            obtain ⟨f20, f21, f22⟩ := cells3 H.out.2.2.2.1.ab
            go_wp2
            go_ret
            exact ⟨by first | rfl | simp_all, H.out.1⟩
          · have hd0 : 0 ≤ d := by omega
            have g3 : decide (d < 0) = false := by simpa using hd
            have er := lGr_of (h' := h') (len := len) hv hn0 (by omega : now ≤ 999) hd0 (by omega : d ≤ 99) h0' h1' l0 (by omega)
            have ee := exp_of hv hn0 (by omega : now ≤ 999) hd0 (by omega : d ≤ 99)
            clear hn hd
            by_cases he : (!hlOk h s n || decide (s + n + d ≤ now)) = true
            · by_cases hp : h = 0
              · have z0 : (h == 0) = true := by simpa using hp
                have HR := Lib.hid (er.trans (gr0_exp he))
                clear ee hv er he hp
                have H := Lib.hid (show Below w.heap.size w (w1.alloc (.cells #[.int .i64 h, .int .i64 s, .int .i64 n] 24)) ∧  AF3 (w1.alloc (.cells #[.int .i64 h, .int .i64 s, .int .i64 n] 24)) w1.heap.size h s n ∧ True from ⟨H.out.1.alloc H.out.1.size _,  AF3.new w1 h s n 24, True.intro⟩)
                obtain ⟨f00, f01, f02⟩ := cells3 H.out.2.1.ab
                go_wp2_with fail
                refine (sLsGr_any h s n h' now len d _).mono ?_
                rintro e w2 ⟨rfl, bb⟩
                have H := Lib.hid (show Below w.heap.size w w2 ∧ AF3 w2 w1.heap.size h s n ∧  True from ⟨below_step H.out.1 bb, H.out.2.1.below bb,  True.intro⟩)
                clear bb
                first | clear f00 f01 f02 | skip
                rw [HR.out]
                simp only [Ac.val, AVal]
                have H := Lib.hid (show Below w.heap.size w (w2.alloc (.cells #[.int .i64 h', .int .i64 now, .int .i64 len] 24)) ∧ AF3 (w2.alloc (.cells #[.int .i64 h', .int .i64 now, .int .i64 len] 24)) w1.heap.size h s n ∧  AF3 (w2.alloc (.cells #[.int .i64 h', .int .i64 now, .int .i64 len] 24)) w2.heap.size h' now len ∧ True from ⟨H.out.1.alloc H.out.1.size _, H.out.2.1.alloc _,  AF3.new w2 h' now len 24, True.intro⟩)
                obtain ⟨f00, f01, f02⟩ := cells3 H.out.2.1.ab
                obtain ⟨f10, f11, f12⟩ := cells3 H.out.2.2.1.ab
                go_wp2_with fail
                refine (iLsGr_any h s n h' now len d _).mono ?_
                rintro e w3 ⟨rfl, bb⟩
                have H := Lib.hid (show Below w.heap.size w w3 ∧ AF3 w3 w1.heap.size h s n ∧ AF3 w3 w2.heap.size h' now len ∧  True from ⟨below_step H.out.1 bb, H.out.2.1.below bb, H.out.2.2.1.below bb,  True.intro⟩)
                clear bb
                first | clear f00 f01 f02 f10 f11 f12 | skip
                rw [HR.out]
                simp only [Ac.val, AVal]
                have H := Lib.hid (show Below w.heap.size w (w3.alloc (.cells #[.int .i64 h', .int .i64 now, .int .i64 len] 24)) ∧ AF3 (w3.alloc (.cells #[.int .i64 h', .int .i64 now, .int .i64 len] 24)) w1.heap.size h s n ∧ AF3 (w3.alloc (.cells #[.int .i64 h', .int .i64 now, .int .i64 len] 24)) w2.heap.size h' now len ∧  AF3 (w3.alloc (.cells #[.int .i64 h', .int .i64 now, .int .i64 len] 24)) w3.heap.size h' now len ∧ True from ⟨H.out.1.alloc H.out.1.size _, H.out.2.1.alloc _, H.out.2.2.1.alloc _,  AF3.new w3 h' now len 24, True.intro⟩)
                obtain ⟨f00, f01, f02⟩ := cells3 H.out.2.1.ab
                obtain ⟨f10, f11, f12⟩ := cells3 H.out.2.2.1.ab
                obtain ⟨f20, f21, f22⟩ := cells3 H.out.2.2.2.1.ab
                go_wp2_with fail
                refine (sLsValid_any h s n _).mono ?_
                rintro e w4 ⟨rfl, bb⟩
                have H := Lib.hid (show Below w.heap.size w w4 ∧ AF3 w4 w1.heap.size h s n ∧ AF3 w4 w2.heap.size h' now len ∧ AF3 w4 w3.heap.size h' now len ∧  True from ⟨below_step H.out.1 bb, H.out.2.1.below bb, H.out.2.2.1.below bb, H.out.2.2.2.1.below bb,  True.intro⟩)
                clear bb
                first | clear f00 f01 f02 f10 f11 f12 f20 f21 f22 | skip
                rw [HV.out]
                obtain ⟨f00, f01, f02⟩ := cells3 H.out.2.1.ab
                obtain ⟨f10, f11, f12⟩ := cells3 H.out.2.2.1.ab
                obtain ⟨f20, f21, f22⟩ := cells3 H.out.2.2.2.1.ab
                go_wp2
                go_ret
                exact ⟨by first | rfl | simp_all, H.out.1⟩
              · have z0 : (h == 0) = false := by simpa using hp
                by_cases q : h = h'
                · have a0 : (h == h') = true := by simpa using q
                  have HR := Lib.hid (er.trans (gr0_exp he))
                  clear ee hv er he hp q
                  have H := Lib.hid (show Below w.heap.size w (w1.alloc (.cells #[.int .i64 h, .int .i64 s, .int .i64 n] 24)) ∧  AF3 (w1.alloc (.cells #[.int .i64 h, .int .i64 s, .int .i64 n] 24)) w1.heap.size h s n ∧ True from ⟨H.out.1.alloc H.out.1.size _,  AF3.new w1 h s n 24, True.intro⟩)
                  obtain ⟨f00, f01, f02⟩ := cells3 H.out.2.1.ab
                  go_wp2_with fail
                  refine (sLsGr_any h s n h' now len d _).mono ?_
                  rintro e w2 ⟨rfl, bb⟩
                  have H := Lib.hid (show Below w.heap.size w w2 ∧ AF3 w2 w1.heap.size h s n ∧  True from ⟨below_step H.out.1 bb, H.out.2.1.below bb,  True.intro⟩)
                  clear bb
                  first | clear f00 f01 f02 | skip
                  rw [HR.out]
                  simp only [Ac.val, AVal]
                  have H := Lib.hid (show Below w.heap.size w (w2.alloc (.cells #[.int .i64 h', .int .i64 now, .int .i64 len] 24)) ∧ AF3 (w2.alloc (.cells #[.int .i64 h', .int .i64 now, .int .i64 len] 24)) w1.heap.size h s n ∧  AF3 (w2.alloc (.cells #[.int .i64 h', .int .i64 now, .int .i64 len] 24)) w2.heap.size h' now len ∧ True from ⟨H.out.1.alloc H.out.1.size _, H.out.2.1.alloc _,  AF3.new w2 h' now len 24, True.intro⟩)
                  obtain ⟨f00, f01, f02⟩ := cells3 H.out.2.1.ab
                  obtain ⟨f10, f11, f12⟩ := cells3 H.out.2.2.1.ab
                  go_wp2_with fail
                  refine (iLsGr_any h s n h' now len d _).mono ?_
                  rintro e w3 ⟨rfl, bb⟩
                  have H := Lib.hid (show Below w.heap.size w w3 ∧ AF3 w3 w1.heap.size h s n ∧ AF3 w3 w2.heap.size h' now len ∧  True from ⟨below_step H.out.1 bb, H.out.2.1.below bb, H.out.2.2.1.below bb,  True.intro⟩)
                  clear bb
                  first | clear f00 f01 f02 f10 f11 f12 | skip
                  rw [HR.out]
                  simp only [Ac.val, AVal]
                  have H := Lib.hid (show Below w.heap.size w (w3.alloc (.cells #[.int .i64 h', .int .i64 now, .int .i64 len] 24)) ∧ AF3 (w3.alloc (.cells #[.int .i64 h', .int .i64 now, .int .i64 len] 24)) w1.heap.size h s n ∧ AF3 (w3.alloc (.cells #[.int .i64 h', .int .i64 now, .int .i64 len] 24)) w2.heap.size h' now len ∧  AF3 (w3.alloc (.cells #[.int .i64 h', .int .i64 now, .int .i64 len] 24)) w3.heap.size h' now len ∧ True from ⟨H.out.1.alloc H.out.1.size _, H.out.2.1.alloc _, H.out.2.2.1.alloc _,  AF3.new w3 h' now len 24, True.intro⟩)
                  obtain ⟨f00, f01, f02⟩ := cells3 H.out.2.1.ab
                  obtain ⟨f10, f11, f12⟩ := cells3 H.out.2.2.1.ab
                  obtain ⟨f20, f21, f22⟩ := cells3 H.out.2.2.2.1.ab
                  go_wp2_with fail
                  refine (sLsValid_any h s n _).mono ?_
                  rintro e w4 ⟨rfl, bb⟩
                  have H := Lib.hid (show Below w.heap.size w w4 ∧ AF3 w4 w1.heap.size h s n ∧ AF3 w4 w2.heap.size h' now len ∧ AF3 w4 w3.heap.size h' now len ∧  True from ⟨below_step H.out.1 bb, H.out.2.1.below bb, H.out.2.2.1.below bb, H.out.2.2.2.1.below bb,  True.intro⟩)
                  clear bb
                  first | clear f00 f01 f02 f10 f11 f12 f20 f21 f22 | skip
                  rw [HV.out]
                  obtain ⟨f00, f01, f02⟩ := cells3 H.out.2.1.ab
                  obtain ⟨f10, f11, f12⟩ := cells3 H.out.2.2.1.ab
                  obtain ⟨f20, f21, f22⟩ := cells3 H.out.2.2.2.1.ab
                  go_wp2
                  go_ret
                  exact ⟨by first | rfl | simp_all, H.out.1⟩
                · have a0 : (h == h') = false := by simpa using q
                  have hh := ls_pos hv (by omega : 0 < h)
                  have ht : s + n + d ≤ now := by rw [hh] at he; simpa using he
                  obtain ⟨r0, r1⟩ := mod_in l'.length (m := 2 * d + 1) (by omega)
                  have HX := Lib.hid (show lAct h s n (now + (l'.length : Int) % (2 * d + 1) - d) d = false by
                    rw [← Bool.not_eq_true]
                    intro x
                    have := lAct_yes x
                    omega)
                  have nz : ¬ 2 * d + 1 = 0 := by omega
                  have te := tmod_e l'.length (2 * d + 1)
                  have HR := Lib.hid (er.trans (gr0_exp he))
                  clear ee hv er he hp hh ht
                  have H := Lib.hid (show Below w.heap.size w (w1.alloc (.cells #[.int .i64 h, .int .i64 s, .int .i64 n] 24)) ∧  AF3 (w1.alloc (.cells #[.int .i64 h, .int .i64 s, .int .i64 n] 24)) w1.heap.size h s n ∧ True from ⟨H.out.1.alloc H.out.1.size _,  AF3.new w1 h s n 24, True.intro⟩)
                  obtain ⟨f00, f01, f02⟩ := cells3 H.out.2.1.ab
                  go_wp2_with fail
                  refine (sLsGr_any h s n h' now len d _).mono ?_
                  rintro e w2 ⟨rfl, bb⟩
                  have H := Lib.hid (show Below w.heap.size w w2 ∧ AF3 w2 w1.heap.size h s n ∧  True from ⟨below_step H.out.1 bb, H.out.2.1.below bb,  True.intro⟩)
                  clear bb
                  first | clear f00 f01 f02 | skip
                  rw [HR.out]
                  simp only [Ac.val, AVal]
                  have H := Lib.hid (show Below w.heap.size w (w2.alloc (.cells #[.int .i64 h', .int .i64 now, .int .i64 len] 24)) ∧ AF3 (w2.alloc (.cells #[.int .i64 h', .int .i64 now, .int .i64 len] 24)) w1.heap.size h s n ∧  AF3 (w2.alloc (.cells #[.int .i64 h', .int .i64 now, .int .i64 len] 24)) w2.heap.size h' now len ∧ True from ⟨H.out.1.alloc H.out.1.size _, H.out.2.1.alloc _,  AF3.new w2 h' now len 24, True.intro⟩)
                  obtain ⟨f00, f01, f02⟩ := cells3 H.out.2.1.ab
                  obtain ⟨f10, f11, f12⟩ := cells3 H.out.2.2.1.ab
                  go_wp2_with fail
                  refine (iLsGr_any h s n h' now len d _).mono ?_
                  rintro e w3 ⟨rfl, bb⟩
                  have H := Lib.hid (show Below w.heap.size w w3 ∧ AF3 w3 w1.heap.size h s n ∧ AF3 w3 w2.heap.size h' now len ∧  True from ⟨below_step H.out.1 bb, H.out.2.1.below bb, H.out.2.2.1.below bb,  True.intro⟩)
                  clear bb
                  first | clear f00 f01 f02 f10 f11 f12 | skip
                  rw [HR.out]
                  simp only [Ac.val, AVal]
                  have H := Lib.hid (show Below w.heap.size w (w3.alloc (.cells #[.int .i64 h', .int .i64 now, .int .i64 len] 24)) ∧ AF3 (w3.alloc (.cells #[.int .i64 h', .int .i64 now, .int .i64 len] 24)) w1.heap.size h s n ∧ AF3 (w3.alloc (.cells #[.int .i64 h', .int .i64 now, .int .i64 len] 24)) w2.heap.size h' now len ∧  AF3 (w3.alloc (.cells #[.int .i64 h', .int .i64 now, .int .i64 len] 24)) w3.heap.size h' now len ∧ True from ⟨H.out.1.alloc H.out.1.size _, H.out.2.1.alloc _, H.out.2.2.1.alloc _,  AF3.new w3 h' now len 24, True.intro⟩)
                  obtain ⟨f00, f01, f02⟩ := cells3 H.out.2.1.ab
                  obtain ⟨f10, f11, f12⟩ := cells3 H.out.2.2.1.ab
                  obtain ⟨f20, f21, f22⟩ := cells3 H.out.2.2.2.1.ab
                  go_wp2_with fail
                  refine (sLsValid_any h s n _).mono ?_
                  rintro e w4 ⟨rfl, bb⟩
                  have H := Lib.hid (show Below w.heap.size w w4 ∧ AF3 w4 w1.heap.size h s n ∧ AF3 w4 w2.heap.size h' now len ∧ AF3 w4 w3.heap.size h' now len ∧  True from ⟨below_step H.out.1 bb, H.out.2.1.below bb, H.out.2.2.1.below bb, H.out.2.2.2.1.below bb,  True.intro⟩)
                  clear bb
                  first | clear f00 f01 f02 f10 f11 f12 f20 f21 f22 | skip
                  rw [HV.out]
                  obtain ⟨f00, f01, f02⟩ := cells3 H.out.2.1.ab
                  obtain ⟨f10, f11, f12⟩ := cells3 H.out.2.2.1.ab
                  obtain ⟨f20, f21, f22⟩ := cells3 H.out.2.2.2.1.ab
                  go_wp2_with fail
                  refine (iLsAct_any h s n _ d _).mono ?_
                  rintro e w5 ⟨rfl, bb⟩
                  have H := Lib.hid (show Below w.heap.size w w5 ∧ AF3 w5 w1.heap.size h s n ∧ AF3 w5 w2.heap.size h' now len ∧ AF3 w5 w3.heap.size h' now len ∧  True from ⟨below_step H.out.1 bb, H.out.2.1.below bb, H.out.2.2.1.below bb, H.out.2.2.2.1.below bb,  True.intro⟩)
                  clear bb
                  first | clear f00 f01 f02 f10 f11 f12 f20 f21 f22 | skip
                  rw [HX.out]
                  go_wp2
                  go_ret
                  exact ⟨by first | rfl | simp_all, H.out.1⟩
            · rw [Bool.not_eq_true] at he
              have hpos : ¬ h = 0 := fun x => by rw [ls_zero x] at he; simp at he
              have z0 : (h == 0) = false := by simpa using hpos
              clear ee hv hpos
              by_cases q : h = h'
              · subst q
                by_cases q1 : s ≤ now
                · have a1 : decide (s ≤ now) = true := by simpa using q1
                  by_cases q2 : s + n ≤ now + len
                  · have a2 : decide (s + n ≤ now + len) = true := by simpa using q2
                    have hx : extBy h s n h now len = true := by simp [extBy, q1, q2]
                    clear q1 q2
                    have HR := Lib.hid (er.trans (gr0_ext hx))
                    clear hx er he
                    have H := Lib.hid (show Below w.heap.size w (w1.alloc (.cells #[.int .i64 h, .int .i64 s, .int .i64 n] 24)) ∧  AF3 (w1.alloc (.cells #[.int .i64 h, .int .i64 s, .int .i64 n] 24)) w1.heap.size h s n ∧ True from ⟨H.out.1.alloc H.out.1.size _,  AF3.new w1 h s n 24, True.intro⟩)
                    obtain ⟨f00, f01, f02⟩ := cells3 H.out.2.1.ab
                    go_wp2_with fail
                    refine (sLsGr_any h s n h now len d _).mono ?_
                    rintro e w2 ⟨rfl, bb⟩
                    have H := Lib.hid (show Below w.heap.size w w2 ∧ AF3 w2 w1.heap.size h s n ∧  True from ⟨below_step H.out.1 bb, H.out.2.1.below bb,  True.intro⟩)
                    clear bb
                    first | clear f00 f01 f02 | skip
                    rw [HR.out]
                    simp only [Ac.val, AVal]
                    have H := Lib.hid (show Below w.heap.size w (w2.alloc (.cells #[.int .i64 h, .int .i64 now, .int .i64 len] 24)) ∧ AF3 (w2.alloc (.cells #[.int .i64 h, .int .i64 now, .int .i64 len] 24)) w1.heap.size h s n ∧  AF3 (w2.alloc (.cells #[.int .i64 h, .int .i64 now, .int .i64 len] 24)) w2.heap.size h now len ∧ True from ⟨H.out.1.alloc H.out.1.size _, H.out.2.1.alloc _,  AF3.new w2 h now len 24, True.intro⟩)
                    obtain ⟨f00, f01, f02⟩ := cells3 H.out.2.1.ab
                    obtain ⟨f10, f11, f12⟩ := cells3 H.out.2.2.1.ab
                    go_wp2_with fail
                    refine (iLsGr_any h s n h now len d _).mono ?_
                    rintro e w3 ⟨rfl, bb⟩
                    have H := Lib.hid (show Below w.heap.size w w3 ∧ AF3 w3 w1.heap.size h s n ∧ AF3 w3 w2.heap.size h now len ∧  True from ⟨below_step H.out.1 bb, H.out.2.1.below bb, H.out.2.2.1.below bb,  True.intro⟩)
                    clear bb
                    first | clear f00 f01 f02 f10 f11 f12 | skip
                    rw [HR.out]
                    simp only [Ac.val, AVal]
                    have H := Lib.hid (show Below w.heap.size w (w3.alloc (.cells #[.int .i64 h, .int .i64 now, .int .i64 len] 24)) ∧ AF3 (w3.alloc (.cells #[.int .i64 h, .int .i64 now, .int .i64 len] 24)) w1.heap.size h s n ∧ AF3 (w3.alloc (.cells #[.int .i64 h, .int .i64 now, .int .i64 len] 24)) w2.heap.size h now len ∧  AF3 (w3.alloc (.cells #[.int .i64 h, .int .i64 now, .int .i64 len] 24)) w3.heap.size h now len ∧ True from ⟨H.out.1.alloc H.out.1.size _, H.out.2.1.alloc _, H.out.2.2.1.alloc _,  AF3.new w3 h now len 24, True.intro⟩)
                    obtain ⟨f00, f01, f02⟩ := cells3 H.out.2.1.ab
                    obtain ⟨f10, f11, f12⟩ := cells3 H.out.2.2.1.ab
                    obtain ⟨f20, f21, f22⟩ := cells3 H.out.2.2.2.1.ab
                    go_wp2_with fail
                    refine (sLsValid_any h s n _).mono ?_
                    rintro e w4 ⟨rfl, bb⟩
                    have H := Lib.hid (show Below w.heap.size w w4 ∧ AF3 w4 w1.heap.size h s n ∧ AF3 w4 w2.heap.size h now len ∧ AF3 w4 w3.heap.size h now len ∧  True from ⟨below_step H.out.1 bb, H.out.2.1.below bb, H.out.2.2.1.below bb, H.out.2.2.2.1.below bb,  True.intro⟩)
                    clear bb
                    first | clear f00 f01 f02 f10 f11 f12 f20 f21 f22 | skip
                    rw [HV.out]
                    obtain ⟨f00, f01, f02⟩ := cells3 H.out.2.1.ab
                    obtain ⟨f10, f11, f12⟩ := cells3 H.out.2.2.1.ab
                    obtain ⟨f20, f21, f22⟩ := cells3 H.out.2.2.2.1.ab
                    go_wp2
                    go_ret
                    exact ⟨by first | rfl | simp_all, H.out.1⟩
                  · have a2 : decide (s + n ≤ now + len) = false := by simpa using q2
                    have hx : extBy h s n h now len = false := by simp [extBy, q2]
                    clear q1 q2
                    have HR := Lib.hid (er.trans (gr0_no he hx))
                    clear hx er he
                    have H := Lib.hid (show Below w.heap.size w (w1.alloc (.cells #[.int .i64 h, .int .i64 s, .int .i64 n] 24)) ∧  AF3 (w1.alloc (.cells #[.int .i64 h, .int .i64 s, .int .i64 n] 24)) w1.heap.size h s n ∧ True from ⟨H.out.1.alloc H.out.1.size _,  AF3.new w1 h s n 24, True.intro⟩)
                    obtain ⟨f00, f01, f02⟩ := cells3 H.out.2.1.ab
                    go_wp2_with fail
                    refine (sLsGr_any h s n h now len d _).mono ?_
                    rintro e w2 ⟨rfl, bb⟩
                    have H := Lib.hid (show Below w.heap.size w w2 ∧ AF3 w2 w1.heap.size h s n ∧  True from ⟨below_step H.out.1 bb, H.out.2.1.below bb,  True.intro⟩)
                    clear bb
                    first | clear f00 f01 f02 | skip
                    rw [HR.out]
                    simp only [Ac.val, AVal]
                    have H := Lib.hid (show Below w.heap.size w (w2.alloc (.cells #[.int .i64 h, .int .i64 s, .int .i64 n] 24)) ∧ AF3 (w2.alloc (.cells #[.int .i64 h, .int .i64 s, .int .i64 n] 24)) w1.heap.size h s n ∧  AF3 (w2.alloc (.cells #[.int .i64 h, .int .i64 s, .int .i64 n] 24)) w2.heap.size h s n ∧ True from ⟨H.out.1.alloc H.out.1.size _, H.out.2.1.alloc _,  AF3.new w2 h s n 24, True.intro⟩)
                    obtain ⟨f00, f01, f02⟩ := cells3 H.out.2.1.ab
                    obtain ⟨f10, f11, f12⟩ := cells3 H.out.2.2.1.ab
                    go_wp2_with fail
                    refine (iLsGr_any h s n h now len d _).mono ?_
                    rintro e w3 ⟨rfl, bb⟩
                    have H := Lib.hid (show Below w.heap.size w w3 ∧ AF3 w3 w1.heap.size h s n ∧ AF3 w3 w2.heap.size h s n ∧  True from ⟨below_step H.out.1 bb, H.out.2.1.below bb, H.out.2.2.1.below bb,  True.intro⟩)
                    clear bb
                    first | clear f00 f01 f02 f10 f11 f12 | skip
                    rw [HR.out]
                    simp only [Ac.val, AVal]
                    have H := Lib.hid (show Below w.heap.size w (w3.alloc (.cells #[.int .i64 h, .int .i64 s, .int .i64 n] 24)) ∧ AF3 (w3.alloc (.cells #[.int .i64 h, .int .i64 s, .int .i64 n] 24)) w1.heap.size h s n ∧ AF3 (w3.alloc (.cells #[.int .i64 h, .int .i64 s, .int .i64 n] 24)) w2.heap.size h s n ∧  AF3 (w3.alloc (.cells #[.int .i64 h, .int .i64 s, .int .i64 n] 24)) w3.heap.size h s n ∧ True from ⟨H.out.1.alloc H.out.1.size _, H.out.2.1.alloc _, H.out.2.2.1.alloc _,  AF3.new w3 h s n 24, True.intro⟩)
                    obtain ⟨f00, f01, f02⟩ := cells3 H.out.2.1.ab
                    obtain ⟨f10, f11, f12⟩ := cells3 H.out.2.2.1.ab
                    obtain ⟨f20, f21, f22⟩ := cells3 H.out.2.2.2.1.ab
                    go_wp2_with fail
                    refine (sLsValid_any h s n _).mono ?_
                    rintro e w4 ⟨rfl, bb⟩
                    have H := Lib.hid (show Below w.heap.size w w4 ∧ AF3 w4 w1.heap.size h s n ∧ AF3 w4 w2.heap.size h s n ∧ AF3 w4 w3.heap.size h s n ∧  True from ⟨below_step H.out.1 bb, H.out.2.1.below bb, H.out.2.2.1.below bb, H.out.2.2.2.1.below bb,  True.intro⟩)
                    clear bb
                    first | clear f00 f01 f02 f10 f11 f12 f20 f21 f22 | skip
                    rw [HV.out]
                    obtain ⟨f00, f01, f02⟩ := cells3 H.out.2.1.ab
                    obtain ⟨f10, f11, f12⟩ := cells3 H.out.2.2.1.ab
                    obtain ⟨f20, f21, f22⟩ := cells3 H.out.2.2.2.1.ab
                    go_wp2
                    go_ret
                    exact ⟨by first | rfl | simp_all, H.out.1⟩
                · have a1 : decide (s ≤ now) = false := by simpa using q1
                  have hx : extBy h s n h now len = false := by simp [extBy, q1]
                  clear q1
                  have HR := Lib.hid (er.trans (gr0_no he hx))
                  clear hx er he
                  have H := Lib.hid (show Below w.heap.size w (w1.alloc (.cells #[.int .i64 h, .int .i64 s, .int .i64 n] 24)) ∧  AF3 (w1.alloc (.cells #[.int .i64 h, .int .i64 s, .int .i64 n] 24)) w1.heap.size h s n ∧ True from ⟨H.out.1.alloc H.out.1.size _,  AF3.new w1 h s n 24, True.intro⟩)
                  obtain ⟨f00, f01, f02⟩ := cells3 H.out.2.1.ab
                  go_wp2_with fail
                  refine (sLsGr_any h s n h now len d _).mono ?_
                  rintro e w2 ⟨rfl, bb⟩
                  have H := Lib.hid (show Below w.heap.size w w2 ∧ AF3 w2 w1.heap.size h s n ∧  True from ⟨below_step H.out.1 bb, H.out.2.1.below bb,  True.intro⟩)
                  clear bb
                  first | clear f00 f01 f02 | skip
                  rw [HR.out]
                  simp only [Ac.val, AVal]
                  have H := Lib.hid (show Below w.heap.size w (w2.alloc (.cells #[.int .i64 h, .int .i64 s, .int .i64 n] 24)) ∧ AF3 (w2.alloc (.cells #[.int .i64 h, .int .i64 s, .int .i64 n] 24)) w1.heap.size h s n ∧  AF3 (w2.alloc (.cells #[.int .i64 h, .int .i64 s, .int .i64 n] 24)) w2.heap.size h s n ∧ True from ⟨H.out.1.alloc H.out.1.size _, H.out.2.1.alloc _,  AF3.new w2 h s n 24, True.intro⟩)
                  obtain ⟨f00, f01, f02⟩ := cells3 H.out.2.1.ab
                  obtain ⟨f10, f11, f12⟩ := cells3 H.out.2.2.1.ab
                  go_wp2_with fail
                  refine (iLsGr_any h s n h now len d _).mono ?_
                  rintro e w3 ⟨rfl, bb⟩
                  have H := Lib.hid (show Below w.heap.size w w3 ∧ AF3 w3 w1.heap.size h s n ∧ AF3 w3 w2.heap.size h s n ∧  True from ⟨below_step H.out.1 bb, H.out.2.1.below bb, H.out.2.2.1.below bb,  True.intro⟩)
                  clear bb
                  first | clear f00 f01 f02 f10 f11 f12 | skip
                  rw [HR.out]
                  simp only [Ac.val, AVal]
                  have H := Lib.hid (show Below w.heap.size w (w3.alloc (.cells #[.int .i64 h, .int .i64 s, .int .i64 n] 24)) ∧ AF3 (w3.alloc (.cells #[.int .i64 h, .int .i64 s, .int .i64 n] 24)) w1.heap.size h s n ∧ AF3 (w3.alloc (.cells #[.int .i64 h, .int .i64 s, .int .i64 n] 24)) w2.heap.size h s n ∧  AF3 (w3.alloc (.cells #[.int .i64 h, .int .i64 s, .int .i64 n] 24)) w3.heap.size h s n ∧ True from ⟨H.out.1.alloc H.out.1.size _, H.out.2.1.alloc _, H.out.2.2.1.alloc _,  AF3.new w3 h s n 24, True.intro⟩)
                  obtain ⟨f00, f01, f02⟩ := cells3 H.out.2.1.ab
                  obtain ⟨f10, f11, f12⟩ := cells3 H.out.2.2.1.ab
                  obtain ⟨f20, f21, f22⟩ := cells3 H.out.2.2.2.1.ab
                  go_wp2_with fail
                  refine (sLsValid_any h s n _).mono ?_
                  rintro e w4 ⟨rfl, bb⟩
                  have H := Lib.hid (show Below w.heap.size w w4 ∧ AF3 w4 w1.heap.size h s n ∧ AF3 w4 w2.heap.size h s n ∧ AF3 w4 w3.heap.size h s n ∧  True from ⟨below_step H.out.1 bb, H.out.2.1.below bb, H.out.2.2.1.below bb, H.out.2.2.2.1.below bb,  True.intro⟩)
                  clear bb
                  first | clear f00 f01 f02 f10 f11 f12 f20 f21 f22 | skip
                  rw [HV.out]
                  obtain ⟨f00, f01, f02⟩ := cells3 H.out.2.1.ab
                  obtain ⟨f10, f11, f12⟩ := cells3 H.out.2.2.1.ab
                  obtain ⟨f20, f21, f22⟩ := cells3 H.out.2.2.2.1.ab
                  go_wp2
                  go_ret
                  exact ⟨by first | rfl | simp_all, H.out.1⟩
              · have a0 : (h == h') = false := by simpa using q
                have hx : extBy h s n h' now len = false := by simp [extBy, Ne.symm q]
                have HR := Lib.hid (er.trans (gr0_no he hx))
                clear hx er he
                have H := Lib.hid (show Below w.heap.size w (w1.alloc (.cells #[.int .i64 h, .int .i64 s, .int .i64 n] 24)) ∧  AF3 (w1.alloc (.cells #[.int .i64 h, .int .i64 s, .int .i64 n] 24)) w1.heap.size h s n ∧ True from ⟨H.out.1.alloc H.out.1.size _,  AF3.new w1 h s n 24, True.intro⟩)
                obtain ⟨f00, f01, f02⟩ := cells3 H.out.2.1.ab
                go_wp2_with fail
                refine (sLsGr_any h s n h' now len d _).mono ?_
                rintro e w2 ⟨rfl, bb⟩
                have H := Lib.hid (show Below w.heap.size w w2 ∧ AF3 w2 w1.heap.size h s n ∧  True from ⟨below_step H.out.1 bb, H.out.2.1.below bb,  True.intro⟩)
                clear bb
                first | clear f00 f01 f02 | skip
                rw [HR.out]
                simp only [Ac.val, AVal]
                have H := Lib.hid (show Below w.heap.size w (w2.alloc (.cells #[.int .i64 h, .int .i64 s, .int .i64 n] 24)) ∧ AF3 (w2.alloc (.cells #[.int .i64 h, .int .i64 s, .int .i64 n] 24)) w1.heap.size h s n ∧  AF3 (w2.alloc (.cells #[.int .i64 h, .int .i64 s, .int .i64 n] 24)) w2.heap.size h s n ∧ True from ⟨H.out.1.alloc H.out.1.size _, H.out.2.1.alloc _,  AF3.new w2 h s n 24, True.intro⟩)
                obtain ⟨f00, f01, f02⟩ := cells3 H.out.2.1.ab
                obtain ⟨f10, f11, f12⟩ := cells3 H.out.2.2.1.ab
                go_wp2_with fail
                refine (iLsGr_any h s n h' now len d _).mono ?_
                rintro e w3 ⟨rfl, bb⟩
                have H := Lib.hid (show Below w.heap.size w w3 ∧ AF3 w3 w1.heap.size h s n ∧ AF3 w3 w2.heap.size h s n ∧  True from ⟨below_step H.out.1 bb, H.out.2.1.below bb, H.out.2.2.1.below bb,  True.intro⟩)
                clear bb
                first | clear f00 f01 f02 f10 f11 f12 | skip
                rw [HR.out]
                simp only [Ac.val, AVal]
                have H := Lib.hid (show Below w.heap.size w (w3.alloc (.cells #[.int .i64 h, .int .i64 s, .int .i64 n] 24)) ∧ AF3 (w3.alloc (.cells #[.int .i64 h, .int .i64 s, .int .i64 n] 24)) w1.heap.size h s n ∧ AF3 (w3.alloc (.cells #[.int .i64 h, .int .i64 s, .int .i64 n] 24)) w2.heap.size h s n ∧  AF3 (w3.alloc (.cells #[.int .i64 h, .int .i64 s, .int .i64 n] 24)) w3.heap.size h s n ∧ True from ⟨H.out.1.alloc H.out.1.size _, H.out.2.1.alloc _, H.out.2.2.1.alloc _,  AF3.new w3 h s n 24, True.intro⟩)
                obtain ⟨f00, f01, f02⟩ := cells3 H.out.2.1.ab
                obtain ⟨f10, f11, f12⟩ := cells3 H.out.2.2.1.ab
                obtain ⟨f20, f21, f22⟩ := cells3 H.out.2.2.2.1.ab
                go_wp2_with fail
                refine (sLsValid_any h s n _).mono ?_
                rintro e w4 ⟨rfl, bb⟩
                have H := Lib.hid (show Below w.heap.size w w4 ∧ AF3 w4 w1.heap.size h s n ∧ AF3 w4 w2.heap.size h s n ∧ AF3 w4 w3.heap.size h s n ∧  True from ⟨below_step H.out.1 bb, H.out.2.1.below bb, H.out.2.2.1.below bb, H.out.2.2.2.1.below bb,  True.intro⟩)
                clear bb
                first | clear f00 f01 f02 f10 f11 f12 f20 f21 f22 | skip
                rw [HV.out]
                obtain ⟨f00, f01, f02⟩ := cells3 H.out.2.1.ab
                obtain ⟨f10, f11, f12⟩ := cells3 H.out.2.2.1.ab
                obtain ⟨f20, f21, f22⟩ := cells3 H.out.2.2.2.1.ab
                go_wp2
                go_ret
                exact ⟨by first | rfl | simp_all, H.out.1⟩
      · rw [Bool.not_eq_true] at hv
        have HV := Lib.hid hv
        clear hv
        obtain ⟨⟨⟨P, A, V⟩, t⟩, hr⟩ : ∃ r, lGr h s n h' now len d = r := ⟨_, rfl⟩
        have HR := Lib.hid hr
        clear hr
        have H := Lib.hid (show Below w.heap.size w (w1.alloc (.cells #[.int .i64 h, .int .i64 s, .int .i64 n] 24)) ∧  AF3 (w1.alloc (.cells #[.int .i64 h, .int .i64 s, .int .i64 n] 24)) w1.heap.size h s n ∧ True from ⟨H.out.1.alloc H.out.1.size _,  AF3.new w1 h s n 24, True.intro⟩)
        obtain ⟨f00, f01, f02⟩ := cells3 H.out.2.1.ab
        go_wp2_with fail
        refine (sLsGr_any h s n h' now len d _).mono ?_
        rintro e w2 ⟨rfl, bb⟩
        have H := Lib.hid (show Below w.heap.size w w2 ∧ AF3 w2 w1.heap.size h s n ∧  True from ⟨below_step H.out.1 bb, H.out.2.1.below bb,  True.intro⟩)
        clear bb
        first | clear f00 f01 f02 | skip
        rw [HR.out]
        simp only [Ac.val, AVal]
        have H := Lib.hid (show Below w.heap.size w (w2.alloc (.cells #[.int .i64 P, .int .i64 A, .int .i64 V] 24)) ∧ AF3 (w2.alloc (.cells #[.int .i64 P, .int .i64 A, .int .i64 V] 24)) w1.heap.size h s n ∧  AF3 (w2.alloc (.cells #[.int .i64 P, .int .i64 A, .int .i64 V] 24)) w2.heap.size P A V ∧ True from ⟨H.out.1.alloc H.out.1.size _, H.out.2.1.alloc _,  AF3.new w2 P A V 24, True.intro⟩)
        obtain ⟨f00, f01, f02⟩ := cells3 H.out.2.1.ab
        obtain ⟨f10, f11, f12⟩ := cells3 H.out.2.2.1.ab
        go_wp2_with fail
        refine (iLsGr_any h s n h' now len d _).mono ?_
        rintro e w3 ⟨rfl, bb⟩
        have H := Lib.hid (show Below w.heap.size w w3 ∧ AF3 w3 w1.heap.size h s n ∧ AF3 w3 w2.heap.size P A V ∧  True from ⟨below_step H.out.1 bb, H.out.2.1.below bb, H.out.2.2.1.below bb,  True.intro⟩)
        clear bb
        first | clear f00 f01 f02 f10 f11 f12 | skip
        rw [HR.out]
        simp only [Ac.val, AVal]
        have H := Lib.hid (show Below w.heap.size w (w3.alloc (.cells #[.int .i64 P, .int .i64 A, .int .i64 V] 24)) ∧ AF3 (w3.alloc (.cells #[.int .i64 P, .int .i64 A, .int .i64 V] 24)) w1.heap.size h s n ∧ AF3 (w3.alloc (.cells #[.int .i64 P, .int .i64 A, .int .i64 V] 24)) w2.heap.size P A V ∧  AF3 (w3.alloc (.cells #[.int .i64 P, .int .i64 A, .int .i64 V] 24)) w3.heap.size P A V ∧ True from ⟨H.out.1.alloc H.out.1.size _, H.out.2.1.alloc _, H.out.2.2.1.alloc _,  AF3.new w3 P A V 24, True.intro⟩)
        obtain ⟨f00, f01, f02⟩ := cells3 H.out.2.1.ab
        obtain ⟨f10, f11, f12⟩ := cells3 H.out.2.2.1.ab
        obtain ⟨f20, f21, f22⟩ := cells3 H.out.2.2.2.1.ab
        go_wp2_with fail
        refine (sLsValid_any h s n _).mono ?_
        rintro e w4 ⟨rfl, bb⟩
        have H := Lib.hid (show Below w.heap.size w w4 ∧ AF3 w4 w1.heap.size h s n ∧ AF3 w4 w2.heap.size P A V ∧ AF3 w4 w3.heap.size P A V ∧  True from ⟨below_step H.out.1 bb, H.out.2.1.below bb, H.out.2.2.1.below bb, H.out.2.2.2.1.below bb,  True.intro⟩)
        clear bb
        first | clear f00 f01 f02 f10 f11 f12 f20 f21 f22 | skip
        rw [HV.out]
        obtain ⟨f00, f01, f02⟩ := cells3 H.out.2.1.ab
        obtain ⟨f10, f11, f12⟩ := cells3 H.out.2.2.1.ab
        obtain ⟨f20, f21, f22⟩ := cells3 H.out.2.2.2.1.ab
        go_wp2
        go_ret
        exact ⟨by first | rfl | simp_all, H.out.1⟩
    · skip
      go_enter Try.func7, Try.ntmps7
      go_wp2
      go_ret
      exact ⟨rfl, Below.refl _ w⟩
  · skip
    go_enter Try.func7, Try.ntmps7
    go_wp2
    go_ret
    exact ⟨rfl, Below.refl _ w⟩

set_option maxRecDepth 100000 in
set_option maxHeartbeats 3200000 in
theorem walkLsExtend (A : Option Addr) (c : Nat) (l : List Int) (w : World) (ha : BL w A l) (hc : l.length ≤ c) (hm : l.length ≤ maxLen) (hmc : c ≤ maxLen) :
    Calls Try.prog 9 #[.slice A l.length c] w fun e w' => e = .returned (.bool true) ∧ Below w.heap.size w w' := by
  have hm1 := hm
  unfold maxLen at hm1
  by_cases hl : l.length ≤ 1048576
  · go_enter Try.func9, Try.ntmps9
    go_wp2_with fail
    refine (drawLG_any _ _ _ _ ha hc hm hmc).mono ?_
    rintro e w1 ⟨h, s, n, h', now, len, d, h0, h1, s0, s1, n0, n1, h0', h1', t0, t1, l0, l1, d0, d1, rfl, B1⟩
    clear ha hm hc hmc
    unfold AVal
    have H := Lib.hid (show Below w.heap.size w w1 ∧ True from ⟨B1, True.intro⟩)
    clear B1
    by_cases hv : lsOk h s n = true
    · have HV := Lib.hid hv
      by_cases hn : now < 0
      · have g1 : decide (now < 0) = true := by simpa using hn
        clear hv hn
        obtain ⟨⟨⟨P, A, V⟩, t⟩, hr⟩ : ∃ r, lGr h s n h' now len d = r := ⟨_, rfl⟩
        have HR := Lib.hid hr
        clear hr
        have H := Lib.hid (show Below w.heap.size w (w1.alloc (.cells #[.int .i64 h, .int .i64 s, .int .i64 n] 24)) ∧  AF3 (w1.alloc (.cells #[.int .i64 h, .int .i64 s, .int .i64 n] 24)) w1.heap.size h s n ∧ True from ⟨H.out.1.alloc H.out.1.size _,  AF3.new w1 h s n 24, True.intro⟩)
        obtain ⟨f00, f01, f02⟩ := cells3 H.out.2.1.ab
        go_wp2_with fail
        refine (sLsGr_any h s n h' now len d _).mono ?_
        rintro e w2 ⟨rfl, bb⟩
        have H := Lib.hid (show Below w.heap.size w w2 ∧ AF3 w2 w1.heap.size h s n ∧  True from ⟨below_step H.out.1 bb, H.out.2.1.below bb,  True.intro⟩)
        clear bb
        first | clear f00 f01 f02 | skip
        rw [HR.out]
        simp only [Ac.val, AVal]
        have H := Lib.hid (show Below w.heap.size w (w2.alloc (.cells #[.int .i64 P, .int .i64 A, .int .i64 V] 24)) ∧ AF3 (w2.alloc (.cells #[.int .i64 P, .int .i64 A, .int .i64 V] 24)) w1.heap.size h s n ∧  AF3 (w2.alloc (.cells #[.int .i64 P, .int .i64 A, .int .i64 V] 24)) w2.heap.size P A V ∧ True from ⟨H.out.1.alloc H.out.1.size _, H.out.2.1.alloc _,  AF3.new w2 P A V 24, True.intro⟩)
        obtain ⟨f00, f01, f02⟩ := cells3 H.out.2.1.ab
        obtain ⟨f10, f11, f12⟩ := cells3 H.out.2.2.1.ab
        go_wp2_with fail
        refine (iLsGr_any h s n h' now len d _).mono ?_
        rintro e w3 ⟨rfl, bb⟩
        have H := Lib.hid (show Below w.heap.size w w3 ∧ AF3 w3 w1.heap.size h s n ∧ AF3 w3 w2.heap.size P A V ∧  True from ⟨below_step H.out.1 bb, H.out.2.1.below bb, H.out.2.2.1.below bb,  True.intro⟩)
        clear bb
        first | clear f00 f01 f02 f10 f11 f12 | skip
        rw [HR.out]
        simp only [Ac.val, AVal]
        have H := Lib.hid (show Below w.heap.size w (w3.alloc (.cells #[.int .i64 P, .int .i64 A, .int .i64 V] 24)) ∧ AF3 (w3.alloc (.cells #[.int .i64 P, .int .i64 A, .int .i64 V] 24)) w1.heap.size h s n ∧ AF3 (w3.alloc (.cells #[.int .i64 P, .int .i64 A, .int .i64 V] 24)) w2.heap.size P A V ∧  AF3 (w3.alloc (.cells #[.int .i64 P, .int .i64 A, .int .i64 V] 24)) w3.heap.size P A V ∧ True from ⟨H.out.1.alloc H.out.1.size _, H.out.2.1.alloc _, H.out.2.2.1.alloc _,  AF3.new w3 P A V 24, True.intro⟩)
        obtain ⟨f00, f01, f02⟩ := cells3 H.out.2.1.ab
        obtain ⟨f10, f11, f12⟩ := cells3 H.out.2.2.1.ab
        obtain ⟨f20, f21, f22⟩ := cells3 H.out.2.2.2.1.ab
        go_wp2_with fail
        refine (sLsValid_any h s n _).mono ?_
        rintro e w4 ⟨rfl, bb⟩
        have H := Lib.hid (show Below w.heap.size w w4 ∧ AF3 w4 w1.heap.size h s n ∧ AF3 w4 w2.heap.size P A V ∧ AF3 w4 w3.heap.size P A V ∧  True from ⟨below_step H.out.1 bb, H.out.2.1.below bb, H.out.2.2.1.below bb, H.out.2.2.2.1.below bb,  True.intro⟩)
        clear bb
        first | clear f00 f01 f02 f10 f11 f12 f20 f21 f22 | skip
        rw [HV.out]
        obtain ⟨f00, f01, f02⟩ := cells3 H.out.2.1.ab
        obtain ⟨f10, f11, f12⟩ := cells3 H.out.2.2.1.ab
        obtain ⟨f20, f21, f22⟩ := cells3 H.out.2.2.2.1.ab
        go_wp2
        go_ret
        exact ⟨by first | rfl | simp_all, H.out.1⟩
      · have hn0 : 0 ≤ now := by omega
        have g1 : decide (now < 0) = false := by simpa using hn
        have g2 : decide (999 < now) = false := by simp; omega
        by_cases hd : d < 0
        · have g3 : decide (d < 0) = true := by simpa using hd
          clear hv hn hd
          obtain ⟨⟨⟨P, A, V⟩, t⟩, hr⟩ : ∃ r, lGr h s n h' now len d = r := ⟨_, rfl⟩
          have HR := Lib.hid hr
          clear hr
          have H := Lib.hid (show Below w.heap.size w (w1.alloc (.cells #[.int .i64 h, .int .i64 s, .int .i64 n] 24)) ∧  AF3 (w1.alloc (.cells #[.int .i64 h, .int .i64 s, .int .i64 n] 24)) w1.heap.size h s n ∧ True from ⟨H.out.1.alloc H.out.1.size _,  AF3.new w1 h s n 24, True.intro⟩)
          obtain ⟨f00, f01, f02⟩ := cells3 H.out.2.1.ab
          go_wp2_with fail
          refine (sLsGr_any h s n h' now len d _).mono ?_
          rintro e w2 ⟨rfl, bb⟩
          have H := Lib.hid (show Below w.heap.size w w2 ∧ AF3 w2 w1.heap.size h s n ∧  True from ⟨below_step H.out.1 bb, H.out.2.1.below bb,  True.intro⟩)
          clear bb
          first | clear f00 f01 f02 | skip
          rw [HR.out]
          simp only [Ac.val, AVal]
          have H := Lib.hid (show Below w.heap.size w (w2.alloc (.cells #[.int .i64 P, .int .i64 A, .int .i64 V] 24)) ∧ AF3 (w2.alloc (.cells #[.int .i64 P, .int .i64 A, .int .i64 V] 24)) w1.heap.size h s n ∧  AF3 (w2.alloc (.cells #[.int .i64 P, .int .i64 A, .int .i64 V] 24)) w2.heap.size P A V ∧ True from ⟨H.out.1.alloc H.out.1.size _, H.out.2.1.alloc _,  AF3.new w2 P A V 24, True.intro⟩)
          obtain ⟨f00, f01, f02⟩ := cells3 H.out.2.1.ab
          obtain ⟨f10, f11, f12⟩ := cells3 H.out.2.2.1.ab
          go_wp2_with fail
          refine (iLsGr_any h s n h' now len d _).mono ?_
          rintro e w3 ⟨rfl, bb⟩
          have H := Lib.hid (show Below w.heap.size w w3 ∧ AF3 w3 w1.heap.size h s n ∧ AF3 w3 w2.heap.size P A V ∧  True from ⟨below_step H.out.1 bb, H.out.2.1.below bb, H.out.2.2.1.below bb,  True.intro⟩)
          clear bb
          first | clear f00 f01 f02 f10 f11 f12 | skip
          rw [HR.out]
          simp only [Ac.val, AVal]
          have H := Lib.hid (show Below w.heap.size w (w3.alloc (.cells #[.int .i64 P, .int .i64 A, .int .i64 V] 24)) ∧ AF3 (w3.alloc (.cells #[.int .i64 P, .int .i64 A, .int .i64 V] 24)) w1.heap.size h s n ∧ AF3 (w3.alloc (.cells #[.int .i64 P, .int .i64 A, .int .i64 V] 24)) w2.heap.size P A V ∧  AF3 (w3.alloc (.cells #[.int .i64 P, .int .i64 A, .int .i64 V] 24)) w3.heap.size P A V ∧ True from ⟨H.out.1.alloc H.out.1.size _, H.out.2.1.alloc _, H.out.2.2.1.alloc _,  AF3.new w3 P A V 24, True.intro⟩)
          obtain ⟨f00, f01, f02⟩ := cells3 H.out.2.1.ab
          obtain ⟨f10, f11, f12⟩ := cells3 H.out.2.2.1.ab
          obtain ⟨f20, f21, f22⟩ := cells3 H.out.2.2.2.1.ab
          go_wp2_with fail
          refine (sLsValid_any h s n _).mono ?_
          rintro e w4 ⟨rfl, bb⟩
          have H := Lib.hid (show Below w.heap.size w w4 ∧ AF3 w4 w1.heap.size h s n ∧ AF3 w4 w2.heap.size P A V ∧ AF3 w4 w3.heap.size P A V ∧  True from ⟨below_step H.out.1 bb, H.out.2.1.below bb, H.out.2.2.1.below bb, H.out.2.2.2.1.below bb,  True.intro⟩)
          clear bb
          first | clear f00 f01 f02 f10 f11 f12 f20 f21 f22 | skip
          rw [HV.out]
          obtain ⟨f00, f01, f02⟩ := cells3 H.out.2.1.ab
          obtain ⟨f10, f11, f12⟩ := cells3 H.out.2.2.1.ab
          obtain ⟨f20, f21, f22⟩ := cells3 H.out.2.2.2.1.ab
          go_wp2
          go_ret
          exact ⟨by first | rfl | simp_all, H.out.1⟩
        · have hd0 : 0 ≤ d := by omega
          have g3 : decide (d < 0) = false := by simpa using hd
          have er := lGr_of (h' := h') (len := len) hv hn0 (by omega : now ≤ 999) hd0 (by omega : d ≤ 99) h0' h1' l0 (by omega)
          have ee := exp_of hv hn0 (by omega : now ≤ 999) hd0 (by omega : d ≤ 99)
          clear hn hd
          obtain ⟨⟨⟨P, A, V⟩, t⟩, hr⟩ : ∃ r, lGr h s n h' now len d = r := ⟨_, rfl⟩
          have HR := Lib.hid hr
          clear hr er ee
          by_cases ht : lAct h s n now d = true
          · have HT := Lib.hid ht
            obtain ⟨x1, x2, x3, x4, x5, x6, x7, x8⟩ := lAct_yes ht
            obtain ⟨y1, y2, y3, y4, y5, y6⟩ := hl_parts x1
            have HG := Lib.hid ((lGr_of (h' := h) (len := n) x2 x3 x4 x5 x6 y1 y2 y5 y6).trans (gr0_ext (d := d) (show extBy h s n h now n = true by simp [extBy]; omega)))
            have a2 : decide (s + n ≤ now + n) = true := by simp; omega
            clear hv ht x1 x2 x3 x4 x5 x6 x7 x8 y1 y2 y3 y4 y5 y6
            have H := Lib.hid (show Below w.heap.size w (w1.alloc (.cells #[.int .i64 h, .int .i64 s, .int .i64 n] 24)) ∧  AF3 (w1.alloc (.cells #[.int .i64 h, .int .i64 s, .int .i64 n] 24)) w1.heap.size h s n ∧ True from ⟨H.out.1.alloc H.out.1.size _,  AF3.new w1 h s n 24, True.intro⟩)
            obtain ⟨f00, f01, f02⟩ := cells3 H.out.2.1.ab
            go_wp2_with fail
            refine (sLsGr_any h s n h' now len d _).mono ?_
            rintro e w2 ⟨rfl, bb⟩
            have H := Lib.hid (show Below w.heap.size w w2 ∧ AF3 w2 w1.heap.size h s n ∧  True from ⟨below_step H.out.1 bb, H.out.2.1.below bb,  True.intro⟩)
            clear bb
            first | clear f00 f01 f02 | skip
            rw [HR.out]
            simp only [Ac.val, AVal]
            have H := Lib.hid (show Below w.heap.size w (w2.alloc (.cells #[.int .i64 P, .int .i64 A, .int .i64 V] 24)) ∧ AF3 (w2.alloc (.cells #[.int .i64 P, .int .i64 A, .int .i64 V] 24)) w1.heap.size h s n ∧  AF3 (w2.alloc (.cells #[.int .i64 P, .int .i64 A, .int .i64 V] 24)) w2.heap.size P A V ∧ True from ⟨H.out.1.alloc H.out.1.size _, H.out.2.1.alloc _,  AF3.new w2 P A V 24, True.intro⟩)
            obtain ⟨f00, f01, f02⟩ := cells3 H.out.2.1.ab
            obtain ⟨f10, f11, f12⟩ := cells3 H.out.2.2.1.ab
            go_wp2_with fail
            refine (iLsGr_any h s n h' now len d _).mono ?_
            rintro e w3 ⟨rfl, bb⟩
            have H := Lib.hid (show Below w.heap.size w w3 ∧ AF3 w3 w1.heap.size h s n ∧ AF3 w3 w2.heap.size P A V ∧  True from ⟨below_step H.out.1 bb, H.out.2.1.below bb, H.out.2.2.1.below bb,  True.intro⟩)
            clear bb
            first | clear f00 f01 f02 f10 f11 f12 | skip
            rw [HR.out]
            simp only [Ac.val, AVal]
            have H := Lib.hid (show Below w.heap.size w (w3.alloc (.cells #[.int .i64 P, .int .i64 A, .int .i64 V] 24)) ∧ AF3 (w3.alloc (.cells #[.int .i64 P, .int .i64 A, .int .i64 V] 24)) w1.heap.size h s n ∧ AF3 (w3.alloc (.cells #[.int .i64 P, .int .i64 A, .int .i64 V] 24)) w2.heap.size P A V ∧  AF3 (w3.alloc (.cells #[.int .i64 P, .int .i64 A, .int .i64 V] 24)) w3.heap.size P A V ∧ True from ⟨H.out.1.alloc H.out.1.size _, H.out.2.1.alloc _, H.out.2.2.1.alloc _,  AF3.new w3 P A V 24, True.intro⟩)
            obtain ⟨f00, f01, f02⟩ := cells3 H.out.2.1.ab
            obtain ⟨f10, f11, f12⟩ := cells3 H.out.2.2.1.ab
            obtain ⟨f20, f21, f22⟩ := cells3 H.out.2.2.2.1.ab
            go_wp2_with fail
            refine (sLsValid_any h s n _).mono ?_
            rintro e w4 ⟨rfl, bb⟩
            have H := Lib.hid (show Below w.heap.size w w4 ∧ AF3 w4 w1.heap.size h s n ∧ AF3 w4 w2.heap.size P A V ∧ AF3 w4 w3.heap.size P A V ∧  True from ⟨below_step H.out.1 bb, H.out.2.1.below bb, H.out.2.2.1.below bb, H.out.2.2.2.1.below bb,  True.intro⟩)
            clear bb
            first | clear f00 f01 f02 f10 f11 f12 f20 f21 f22 | skip
            rw [HV.out]
            obtain ⟨f00, f01, f02⟩ := cells3 H.out.2.1.ab
            obtain ⟨f10, f11, f12⟩ := cells3 H.out.2.2.1.ab
            obtain ⟨f20, f21, f22⟩ := cells3 H.out.2.2.2.1.ab
            go_wp2_with fail
            refine (iLsAct_any h s n now d _).mono ?_
            rintro e w5 ⟨rfl, bb⟩
            have H := Lib.hid (show Below w.heap.size w w5 ∧ AF3 w5 w1.heap.size h s n ∧ AF3 w5 w2.heap.size P A V ∧ AF3 w5 w3.heap.size P A V ∧  True from ⟨below_step H.out.1 bb, H.out.2.1.below bb, H.out.2.2.1.below bb, H.out.2.2.2.1.below bb,  True.intro⟩)
            clear bb
            first | clear f00 f01 f02 f10 f11 f12 f20 f21 f22 | skip
            rw [HT.out]
            obtain ⟨f00, f01, f02⟩ := cells3 H.out.2.1.ab
            obtain ⟨f10, f11, f12⟩ := cells3 H.out.2.2.1.ab
            obtain ⟨f20, f21, f22⟩ := cells3 H.out.2.2.2.1.ab
            go_wp2_with fail
            refine (iLsGr_any h s n h now n d _).mono ?_
            rintro e w6 ⟨rfl, bb⟩
            have H := Lib.hid (show Below w.heap.size w w6 ∧ AF3 w6 w1.heap.size h s n ∧ AF3 w6 w2.heap.size P A V ∧ AF3 w6 w3.heap.size P A V ∧  True from ⟨below_step H.out.1 bb, H.out.2.1.below bb, H.out.2.2.1.below bb, H.out.2.2.2.1.below bb,  True.intro⟩)
            clear bb
            first | clear f00 f01 f02 f10 f11 f12 f20 f21 f22 | skip
            rw [HG.out]
            simp only [Ac.val, AVal]
            have H := Lib.hid (show Below w.heap.size w (w6.alloc (.cells #[.int .i64 h, .int .i64 now, .int .i64 n] 24)) ∧ AF3 (w6.alloc (.cells #[.int .i64 h, .int .i64 now, .int .i64 n] 24)) w1.heap.size h s n ∧ AF3 (w6.alloc (.cells #[.int .i64 h, .int .i64 now, .int .i64 n] 24)) w2.heap.size P A V ∧ AF3 (w6.alloc (.cells #[.int .i64 h, .int .i64 now, .int .i64 n] 24)) w3.heap.size P A V ∧  AF3 (w6.alloc (.cells #[.int .i64 h, .int .i64 now, .int .i64 n] 24)) w6.heap.size h now n ∧ True from ⟨H.out.1.alloc H.out.1.size _, H.out.2.1.alloc _, H.out.2.2.1.alloc _, H.out.2.2.2.1.alloc _,  AF3.new w6 h now n 24, True.intro⟩)
            obtain ⟨f00, f01, f02⟩ := cells3 H.out.2.1.ab
            obtain ⟨f10, f11, f12⟩ := cells3 H.out.2.2.1.ab
            obtain ⟨f20, f21, f22⟩ := cells3 H.out.2.2.2.1.ab
            obtain ⟨f30, f31, f32⟩ := cells3 H.out.2.2.2.2.1.ab
            go_wp2
            go_ret
            exact ⟨by first | rfl | simp_all, H.out.1⟩
          · rw [Bool.not_eq_true] at ht
            have HT := Lib.hid ht
            clear hv ht
            have H := Lib.hid (show Below w.heap.size w (w1.alloc (.cells #[.int .i64 h, .int .i64 s, .int .i64 n] 24)) ∧  AF3 (w1.alloc (.cells #[.int .i64 h, .int .i64 s, .int .i64 n] 24)) w1.heap.size h s n ∧ True from ⟨H.out.1.alloc H.out.1.size _,  AF3.new w1 h s n 24, True.intro⟩)
            obtain ⟨f00, f01, f02⟩ := cells3 H.out.2.1.ab
            go_wp2_with fail
            refine (sLsGr_any h s n h' now len d _).mono ?_
            rintro e w2 ⟨rfl, bb⟩
            have H := Lib.hid (show Below w.heap.size w w2 ∧ AF3 w2 w1.heap.size h s n ∧  True from ⟨below_step H.out.1 bb, H.out.2.1.below bb,  True.intro⟩)
            clear bb
            first | clear f00 f01 f02 | skip
            rw [HR.out]
            simp only [Ac.val, AVal]
            have H := Lib.hid (show Below w.heap.size w (w2.alloc (.cells #[.int .i64 P, .int .i64 A, .int .i64 V] 24)) ∧ AF3 (w2.alloc (.cells #[.int .i64 P, .int .i64 A, .int .i64 V] 24)) w1.heap.size h s n ∧  AF3 (w2.alloc (.cells #[.int .i64 P, .int .i64 A, .int .i64 V] 24)) w2.heap.size P A V ∧ True from ⟨H.out.1.alloc H.out.1.size _, H.out.2.1.alloc _,  AF3.new w2 P A V 24, True.intro⟩)
            obtain ⟨f00, f01, f02⟩ := cells3 H.out.2.1.ab
            obtain ⟨f10, f11, f12⟩ := cells3 H.out.2.2.1.ab
            go_wp2_with fail
            refine (iLsGr_any h s n h' now len d _).mono ?_
            rintro e w3 ⟨rfl, bb⟩
            have H := Lib.hid (show Below w.heap.size w w3 ∧ AF3 w3 w1.heap.size h s n ∧ AF3 w3 w2.heap.size P A V ∧  True from ⟨below_step H.out.1 bb, H.out.2.1.below bb, H.out.2.2.1.below bb,  True.intro⟩)
            clear bb
            first | clear f00 f01 f02 f10 f11 f12 | skip
            rw [HR.out]
            simp only [Ac.val, AVal]
            have H := Lib.hid (show Below w.heap.size w (w3.alloc (.cells #[.int .i64 P, .int .i64 A, .int .i64 V] 24)) ∧ AF3 (w3.alloc (.cells #[.int .i64 P, .int .i64 A, .int .i64 V] 24)) w1.heap.size h s n ∧ AF3 (w3.alloc (.cells #[.int .i64 P, .int .i64 A, .int .i64 V] 24)) w2.heap.size P A V ∧  AF3 (w3.alloc (.cells #[.int .i64 P, .int .i64 A, .int .i64 V] 24)) w3.heap.size P A V ∧ True from ⟨H.out.1.alloc H.out.1.size _, H.out.2.1.alloc _, H.out.2.2.1.alloc _,  AF3.new w3 P A V 24, True.intro⟩)
            obtain ⟨f00, f01, f02⟩ := cells3 H.out.2.1.ab
            obtain ⟨f10, f11, f12⟩ := cells3 H.out.2.2.1.ab
            obtain ⟨f20, f21, f22⟩ := cells3 H.out.2.2.2.1.ab
            go_wp2_with fail
            refine (sLsValid_any h s n _).mono ?_
            rintro e w4 ⟨rfl, bb⟩
            have H := Lib.hid (show Below w.heap.size w w4 ∧ AF3 w4 w1.heap.size h s n ∧ AF3 w4 w2.heap.size P A V ∧ AF3 w4 w3.heap.size P A V ∧  True from ⟨below_step H.out.1 bb, H.out.2.1.below bb, H.out.2.2.1.below bb, H.out.2.2.2.1.below bb,  True.intro⟩)
            clear bb
            first | clear f00 f01 f02 f10 f11 f12 f20 f21 f22 | skip
            rw [HV.out]
            obtain ⟨f00, f01, f02⟩ := cells3 H.out.2.1.ab
            obtain ⟨f10, f11, f12⟩ := cells3 H.out.2.2.1.ab
            obtain ⟨f20, f21, f22⟩ := cells3 H.out.2.2.2.1.ab
            go_wp2_with fail
            refine (iLsAct_any h s n now d _).mono ?_
            rintro e w5 ⟨rfl, bb⟩
            have H := Lib.hid (show Below w.heap.size w w5 ∧ AF3 w5 w1.heap.size h s n ∧ AF3 w5 w2.heap.size P A V ∧ AF3 w5 w3.heap.size P A V ∧  True from ⟨below_step H.out.1 bb, H.out.2.1.below bb, H.out.2.2.1.below bb, H.out.2.2.2.1.below bb,  True.intro⟩)
            clear bb
            first | clear f00 f01 f02 f10 f11 f12 f20 f21 f22 | skip
            rw [HT.out]
            obtain ⟨f00, f01, f02⟩ := cells3 H.out.2.1.ab
            obtain ⟨f10, f11, f12⟩ := cells3 H.out.2.2.1.ab
            obtain ⟨f20, f21, f22⟩ := cells3 H.out.2.2.2.1.ab
            go_wp2
            go_ret
            exact ⟨by first | rfl | simp_all, H.out.1⟩
    · rw [Bool.not_eq_true] at hv
      have HV := Lib.hid hv
      clear hv
      obtain ⟨⟨⟨P, A, V⟩, t⟩, hr⟩ : ∃ r, lGr h s n h' now len d = r := ⟨_, rfl⟩
      have HR := Lib.hid hr
      clear hr
      have H := Lib.hid (show Below w.heap.size w (w1.alloc (.cells #[.int .i64 h, .int .i64 s, .int .i64 n] 24)) ∧  AF3 (w1.alloc (.cells #[.int .i64 h, .int .i64 s, .int .i64 n] 24)) w1.heap.size h s n ∧ True from ⟨H.out.1.alloc H.out.1.size _,  AF3.new w1 h s n 24, True.intro⟩)
      obtain ⟨f00, f01, f02⟩ := cells3 H.out.2.1.ab
      go_wp2_with fail
      refine (sLsGr_any h s n h' now len d _).mono ?_
      rintro e w2 ⟨rfl, bb⟩
      have H := Lib.hid (show Below w.heap.size w w2 ∧ AF3 w2 w1.heap.size h s n ∧  True from ⟨below_step H.out.1 bb, H.out.2.1.below bb,  True.intro⟩)
      clear bb
      first | clear f00 f01 f02 | skip
      rw [HR.out]
      simp only [Ac.val, AVal]
      have H := Lib.hid (show Below w.heap.size w (w2.alloc (.cells #[.int .i64 P, .int .i64 A, .int .i64 V] 24)) ∧ AF3 (w2.alloc (.cells #[.int .i64 P, .int .i64 A, .int .i64 V] 24)) w1.heap.size h s n ∧  AF3 (w2.alloc (.cells #[.int .i64 P, .int .i64 A, .int .i64 V] 24)) w2.heap.size P A V ∧ True from ⟨H.out.1.alloc H.out.1.size _, H.out.2.1.alloc _,  AF3.new w2 P A V 24, True.intro⟩)
      obtain ⟨f00, f01, f02⟩ := cells3 H.out.2.1.ab
      obtain ⟨f10, f11, f12⟩ := cells3 H.out.2.2.1.ab
      go_wp2_with fail
      refine (iLsGr_any h s n h' now len d _).mono ?_
      rintro e w3 ⟨rfl, bb⟩
      have H := Lib.hid (show Below w.heap.size w w3 ∧ AF3 w3 w1.heap.size h s n ∧ AF3 w3 w2.heap.size P A V ∧  True from ⟨below_step H.out.1 bb, H.out.2.1.below bb, H.out.2.2.1.below bb,  True.intro⟩)
      clear bb
      first | clear f00 f01 f02 f10 f11 f12 | skip
      rw [HR.out]
      simp only [Ac.val, AVal]
      have H := Lib.hid (show Below w.heap.size w (w3.alloc (.cells #[.int .i64 P, .int .i64 A, .int .i64 V] 24)) ∧ AF3 (w3.alloc (.cells #[.int .i64 P, .int .i64 A, .int .i64 V] 24)) w1.heap.size h s n ∧ AF3 (w3.alloc (.cells #[.int .i64 P, .int .i64 A, .int .i64 V] 24)) w2.heap.size P A V ∧  AF3 (w3.alloc (.cells #[.int .i64 P, .int .i64 A, .int .i64 V] 24)) w3.heap.size P A V ∧ True from ⟨H.out.1.alloc H.out.1.size _, H.out.2.1.alloc _, H.out.2.2.1.alloc _,  AF3.new w3 P A V 24, True.intro⟩)
      obtain ⟨f00, f01, f02⟩ := cells3 H.out.2.1.ab
      obtain ⟨f10, f11, f12⟩ := cells3 H.out.2.2.1.ab
      obtain ⟨f20, f21, f22⟩ := cells3 H.out.2.2.2.1.ab
      go_wp2_with fail
      refine (sLsValid_any h s n _).mono ?_
      rintro e w4 ⟨rfl, bb⟩
      have H := Lib.hid (show Below w.heap.size w w4 ∧ AF3 w4 w1.heap.size h s n ∧ AF3 w4 w2.heap.size P A V ∧ AF3 w4 w3.heap.size P A V ∧  True from ⟨below_step H.out.1 bb, H.out.2.1.below bb, H.out.2.2.1.below bb, H.out.2.2.2.1.below bb,  True.intro⟩)
      clear bb
      first | clear f00 f01 f02 f10 f11 f12 f20 f21 f22 | skip
      rw [HV.out]
      obtain ⟨f00, f01, f02⟩ := cells3 H.out.2.1.ab
      obtain ⟨f10, f11, f12⟩ := cells3 H.out.2.2.1.ab
      obtain ⟨f20, f21, f22⟩ := cells3 H.out.2.2.2.1.ab
      go_wp2
      go_ret
      exact ⟨by first | rfl | simp_all, H.out.1⟩
  · skip
    go_enter Try.func9, Try.ntmps9
    go_wp2
    go_ret
    exact ⟨rfl, Below.refl _ w⟩
end Go.Proofs.Ytfagjbbljdgefaa
