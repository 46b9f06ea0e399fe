/- Acceptors: the whole of AcceptorPrepare and AcceptorAccept, the program's and the model's, by their contracts. -/
import Derived.Test.YtndgmglelogegaaAcpU
namespace Go.Proofs.Ytndgmglelogegaa
open Go.RowKit

theorem spcValid_any (p a v : Int) (w : World) :
    Calls Try.prog 19 #[AVal p a v] w fun e w' => e = .returned (.bool (okA p a v)) ∧ Below w.heap.size w w' := by
  by_cases h1 : 0 ≤ p ∧ p ≤ 20
  · have e1 : decide (0 ≤ p ∧ p ≤ 20) = true := by simpa using h1
    by_cases h2 : 0 ≤ a ∧ a ≤ p
    · have e2 : decide (0 ≤ a ∧ a ≤ p) = true := by simpa using h2
      by_cases h3 : a = 0
      · have e3 : (a == 0) = true := by simpa using h3
        have e3' : decide (0 < a) = false := by simp; omega
        by_cases h4 : v = 0
        · have e4 : (v == 0) = true := by simpa using h4
          have e : okA p a v = true := by simp [okA]; omega
          rw [e]
          have E := Lib.hid (And.intro e1 e2)
          clear e h1 h2 h3 h4 e1 e2
          unfold AVal
          go_enter Try.func19, Try.ntmps19
          go_wp2_with fail
          refine (l6In_any _ _ _ _).mono ?_
          rintro e w1 ⟨rfl, rfl⟩
          rw [E.out.1]
          go_wp2_with fail
          refine (l6In_any _ _ _ _).mono ?_
          rintro e w1 ⟨rfl, rfl⟩
          rw [E.out.2]
          go_wp2
          go_ret
          exact ⟨by simp_all, (Below.refl _ w).alloc (Nat.le_refl _) _⟩
        · have e4 : (v == 0) = false := by simpa using h4
          have e : okA p a v = false := by simp [okA]; omega
          rw [e]
          have E := Lib.hid (And.intro e1 e2)
          clear e h1 h2 h3 h4 e1 e2
          unfold AVal
          go_enter Try.func19, Try.ntmps19
          go_wp2_with fail
          refine (l6In_any _ _ _ _).mono ?_
          rintro e w1 ⟨rfl, rfl⟩
          rw [E.out.1]
          go_wp2_with fail
          refine (l6In_any _ _ _ _).mono ?_
          rintro e w1 ⟨rfl, rfl⟩
          rw [E.out.2]
          go_wp2
          go_ret
          exact ⟨by simp_all, (Below.refl _ w).alloc (Nat.le_refl _) _⟩
      · have e3 : (a == 0) = false := by simpa using h3
        have e3' : decide (0 < a) = true := by simp; omega
        have e : okA p a v = okV v := by rw [Bool.eq_iff_iff]; simp [okA, okV]; omega
        rw [e]
        obtain ⟨t, ht⟩ : ∃ t, t = okV v := ⟨_, rfl⟩
        rw [← ht]
        have E := Lib.hid (And.intro e1 (And.intro e2 ht.symm))
        clear e h1 h2 h3 e1 e2 ht
        unfold AVal
        go_enter Try.func19, Try.ntmps19
        go_wp2_with fail
        refine (l6In_any _ _ _ _).mono ?_
        rintro e w1 ⟨rfl, rfl⟩
        rw [E.out.1]
        go_wp2_with fail
        refine (l6In_any _ _ _ _).mono ?_
        rintro e w1 ⟨rfl, rfl⟩
        rw [E.out.2.1]
        go_wp2_with fail
        refine (l21Value_any _ _).mono ?_
        rintro e w1 ⟨rfl, rfl⟩
        rw [E.out.2.2]
        go_wp2
        go_ret
        exact ⟨by simp_all, (Below.refl _ w).alloc (Nat.le_refl _) _⟩
    · have e2 : decide (0 ≤ a ∧ a ≤ p) = false := by simpa using h2
      have e : okA p a v = false := by simp [okA]; omega
      rw [e]
      have E := Lib.hid (And.intro e1 e2)
      clear e h1 h2 e1 e2
      unfold AVal
      go_enter Try.func19, Try.ntmps19
      go_wp2_with fail
      refine (l6In_any _ _ _ _).mono ?_
      rintro e w1 ⟨rfl, rfl⟩
      rw [E.out.1]
      go_wp2_with fail
      refine (l6In_any _ _ _ _).mono ?_
      rintro e w1 ⟨rfl, rfl⟩
      rw [E.out.2]
      go_wp2
      go_ret
      exact ⟨by simp_all, (Below.refl _ w).alloc (Nat.le_refl _) _⟩
  · have e1 : decide (0 ≤ p ∧ p ≤ 20) = false := by simpa using h1
    have e : okA p a v = false := by simp [okA]; omega
    rw [e]
    have E := Lib.hid e1
    clear e h1 e1
    unfold AVal
    go_enter Try.func19, Try.ntmps19
    go_wp2_with fail
    refine (l6In_any _ _ _ _).mono ?_
    rintro e w1 ⟨rfl, rfl⟩
    rw [E.out]
    go_wp2
    go_ret
    exact ⟨by simp_all, (Below.refl _ w).alloc (Nat.le_refl _) _⟩
theorem two3_new (w : World) (p a v : Int) : (two3 w p a v).cell? ⟨w.heap.size + 1, 0, none⟩ = some (.int .i64 0) ∧ (two3 w p a v).cell? ⟨w.heap.size + 1, 1, none⟩ = some (.int .i64 0) ∧ (two3 w p a v).cell? ⟨w.heap.size + 1, 2, none⟩ = some (.int .i64 0) := cells3 (two3_facts w p a v).2.1.ab

set_option maxRecDepth 100000 in
set_option maxHeartbeats 1600000 in
theorem iAPrep_any (p a v b : Int) (w : World) :
    Calls Try.prog 18 #[AVal p a v, .int .i64 b] w (Said3 w (aPrep (p, a, v) b)) := by
  by_cases hb : okB b = true
  · have er : aPrep (p, a, v) b = if okA p a v then prepA (p, a, v) b else ((0, 0, 0), false) := by simp [aPrep, hb, Ac.ok]
    rw [er]
    clear er
    obtain ⟨r, hr⟩ : ∃ r, r = (if okA p a v then prepA (p, a, v) b else ((0, 0, 0), false)) := ⟨_, rfl⟩
    rw [← hr]
    have HR := Lib.hid hr
    clear hr
    obtain ⟨⟨p', a', v'⟩, t⟩ := r
    have H0 := Lib.hid (two3_facts w p a v)
    obtain ⟨q0, q1, q2⟩ := cells3 H0.out.1.ab
    unfold AVal
    go_enter Try.func18, Try.ntmps18
    go_wp2_with fail
    refine (isBallot_any _ _).mono ?_
    rintro e w1 ⟨rfl, rfl⟩
    rw [hb]
    go_wp2_with fail
    refine (ansP p a v b 0 _).mono ?_
    rintro e w2 ⟨rfl, b2⟩
    have G2 := Lib.hid (And.intro (H0.out.2.1.below b2) (below_step H0.out.2.2 (b2.mono (Nat.le_refl _))))
    clear H0 b2 q0 q1 q2
    rw [← HR.out]
    obtain ⟨q0, q1, q2⟩ := cells3 G2.out.1.ab
    have z0 := G2.out.1.fz 0
    have z1 := G2.out.1.fz 1
    have z2 := G2.out.1.fz 2
    have G3 := Lib.hid (And.intro (G2.out.1.set3 p' a' v') (set3_below G2.out.2 (Nat.le_succ _) p' a' v'))
    simp only [Ac.val, AVal]
    go_wp2
    refine bodyPost_ret (res_iAPrep _ rfl rfl (cells3 G3.out.1.ab)) rfl ?_
    exact ⟨rfl, G3.out.2⟩
  · rw [Bool.not_eq_true] at hb
    have er : aPrep (p, a, v) b = ((0, 0, 0), false) := by simp [aPrep, hb]
    rw [er]
    clear er
    have H0 := Lib.hid (two3_facts w p a v)
    unfold AVal
    go_enter Try.func18, Try.ntmps18
    go_wp2_with fail
    refine (isBallot_any _ _).mono ?_
    rintro e w1 ⟨rfl, rfl⟩
    rw [hb]
    go_wp2
    refine bodyPost_ret (res_iAPrep _ rfl rfl (new3 (by simp))) rfl ?_
    exact ⟨rfl, H0.out.2.2⟩

set_option maxRecDepth 100000 in
set_option maxHeartbeats 1600000 in
theorem iAAcc_any (p a v b c : Int) (w : World) :
    Calls Try.prog 23 #[AVal p a v, .int .i64 b, .int .i64 c] w (Said3 w (aAcc (p, a, v) b c)) := by
  by_cases hb : okB b = true
  · by_cases hv : okV c = true
    · have er : aAcc (p, a, v) b c = if okA p a v then acceA (p, a, v) b c else ((0, 0, 0), false) := by simp [aAcc, hb, hv, Ac.ok]
      rw [er]
      clear er
      obtain ⟨r, hr⟩ : ∃ r, r = (if okA p a v then acceA (p, a, v) b c else ((0, 0, 0), false)) := ⟨_, rfl⟩
      rw [← hr]
      have HR := Lib.hid hr
      clear hr
      obtain ⟨⟨p', a', v'⟩, t⟩ := r
      have H0 := Lib.hid (two3_facts w p a v)
      obtain ⟨q0, q1, q2⟩ := cells3 H0.out.1.ab
      unfold AVal
      go_enter Try.func23, Try.ntmps23
      go_wp2_with fail
      refine (isBallot_any _ _).mono ?_
      rintro e w1 ⟨rfl, rfl⟩
      rw [hb]
      go_wp2_with fail
      refine (isValue_any _ _).mono ?_
      rintro e w1 ⟨rfl, rfl⟩
      rw [hv]
      go_wp2_with fail
      refine (ansA p a v b c _).mono ?_
      rintro e w2 ⟨rfl, b2⟩
      have G2 := Lib.hid (And.intro (H0.out.2.1.below b2) (below_step H0.out.2.2 (b2.mono (Nat.le_refl _))))
      clear H0 b2 q0 q1 q2
      rw [← HR.out]
      obtain ⟨q0, q1, q2⟩ := cells3 G2.out.1.ab
      have z0 := G2.out.1.fz 0
      have z1 := G2.out.1.fz 1
      have z2 := G2.out.1.fz 2
      have G3 := Lib.hid (And.intro (G2.out.1.set3 p' a' v') (set3_below G2.out.2 (Nat.le_succ _) p' a' v'))
      simp only [Ac.val, AVal]
      go_wp2
      refine bodyPost_ret (res_iAAcc _ rfl rfl (cells3 G3.out.1.ab)) rfl ?_
      exact ⟨rfl, G3.out.2⟩
    · rw [Bool.not_eq_true] at hv
      have er : aAcc (p, a, v) b c = ((0, 0, 0), false) := by simp [aAcc, hv]
      rw [er]
      clear er
      have H0 := Lib.hid (two3_facts w p a v)
      unfold AVal
      go_enter Try.func23, Try.ntmps23
      go_wp2_with fail
      refine (isBallot_any _ _).mono ?_
      rintro e w1 ⟨rfl, rfl⟩
      rw [hb]
      go_wp2_with fail
      refine (isValue_any _ _).mono ?_
      rintro e w1 ⟨rfl, rfl⟩
      rw [hv]
      go_wp2
      refine bodyPost_ret (res_iAAcc _ rfl rfl (new3 (by simp))) rfl ?_
      exact ⟨rfl, H0.out.2.2⟩
  · rw [Bool.not_eq_true] at hb
    have er : aAcc (p, a, v) b c = ((0, 0, 0), false) := by simp [aAcc, hb]
    rw [er]
    clear er
    have H0 := Lib.hid (two3_facts w p a v)
    unfold AVal
    go_enter Try.func23, Try.ntmps23
    go_wp2_with fail
    refine (isBallot_any _ _).mono ?_
    rintro e w1 ⟨rfl, rfl⟩
    rw [hb]
    go_wp2
    refine bodyPost_ret (res_iAAcc _ rfl rfl (new3 (by simp))) rfl ?_
    exact ⟨rfl, H0.out.2.2⟩

set_option maxRecDepth 100000 in
set_option maxHeartbeats 1600000 in
theorem sAPrep_any (p a v b : Int) (w : World) :
    Calls Try.prog 17 #[AVal p a v, .int .i64 b] w (Said3 w (aPrep (p, a, v) b)) := by
  by_cases ho : okA p a v = true
  · by_cases hb : okB b = true
    · have hb' : decide (1 ≤ b ∧ b ≤ 20) = true := hb
      by_cases h : b ≤ p
      · have e1 : decide (b ≤ p) = true := by simpa using h
        rw [show aPrep (p, a, v) b = ((p, a, v), false) by simp [aPrep, Ac.ok, ho, hb, prepA, h]]
        have H0 := Lib.hid (two3_facts w p a v)
        unfold AVal
        go_enter Try.func17, Try.ntmps17
        go_wp2_with fail
        refine (spcValid_any _ _ _ _).mono ?_
        rintro e w1 ⟨rfl, b1⟩
        have G := Lib.hid (And.intro (H0.out.1.below b1) (And.intro (H0.out.2.1.below b1) (below_step H0.out.2.2 (b1.mono (Nat.le_refl _)))))
        clear H0 b1
        rw [ho]
        go_wp2_with fail
        refine (l6In_any _ _ _ _).mono ?_
        rintro e w1 ⟨rfl, rfl⟩
        rw [hb']
        obtain ⟨q0, q1, q2⟩ := cells3 G.out.2.1.ab
        obtain ⟨p0, p1, p2⟩ := cells3 G.out.1.ab
        have z0 := G.out.2.1.fz 0
        have z1 := G.out.2.1.fz 1
        have z2 := G.out.2.1.fz 2
        have G3 := Lib.hid (And.intro (G.out.2.1.set3 p a v) (set3_below G.out.2.2 (Nat.le_succ _) p a v))
        go_wp2
        refine bodyPost_ret (res_sAPrep _ rfl rfl (cells3 G3.out.1.ab)) rfl ?_
        exact ⟨rfl, G3.out.2⟩
      · have e1 : decide (b ≤ p) = false := by simpa using h
        rw [show aPrep (p, a, v) b = ((b, a, v), true) by simp [aPrep, Ac.ok, ho, hb, prepA, h]]
        have H0 := Lib.hid (two3_facts w p a v)
        unfold AVal
        go_enter Try.func17, Try.ntmps17
        go_wp2_with fail
        refine (spcValid_any _ _ _ _).mono ?_
        rintro e w1 ⟨rfl, b1⟩
        have G := Lib.hid (And.intro (H0.out.1.below b1) (And.intro (H0.out.2.1.below b1) (below_step H0.out.2.2 (b1.mono (Nat.le_refl _)))))
        clear H0 b1
        rw [ho]
        go_wp2_with fail
        refine (l6In_any _ _ _ _).mono ?_
        rintro e w1 ⟨rfl, rfl⟩
        rw [hb']
        obtain ⟨p0, p1, p2⟩ := cells3 G.out.1.ab
        have y0 := G.out.1.fz 0
        have G1 := Lib.hid (And.intro (G.out.1.set0 b) (And.intro (G.out.2.1.kept (Below.heap_setCell w1 ⟨w.heap.size, 0, none⟩ (.int .i64 b) (w.heap.size + 1) (by simp))) (G.out.2.2.setCell (p := ⟨w.heap.size, 0, none⟩) (Nat.le_refl _) (.int .i64 b))))
        obtain ⟨r0, r1, r2⟩ := cells3 G1.out.1.ab
        obtain ⟨q0, q1, q2⟩ := cells3 G1.out.2.1.ab
        have z0 := G1.out.2.1.fz 0
        have z1 := G1.out.2.1.fz 1
        have z2 := G1.out.2.1.fz 2
        have G3 := Lib.hid (And.intro (G1.out.2.1.set3 b a v) (set3_below G1.out.2.2 (Nat.le_succ _) b a v))
        go_wp2
        refine bodyPost_ret (res_sAPrep _ rfl rfl (cells3 G3.out.1.ab)) rfl ?_
        exact ⟨rfl, G3.out.2⟩
    · rw [Bool.not_eq_true] at hb
      have hb' : decide (1 ≤ b ∧ b ≤ 20) = false := hb
      rw [show aPrep (p, a, v) b = ((0, 0, 0), false) by simp [aPrep, hb]]
      have H0 := Lib.hid (two3_facts w p a v)
      unfold AVal
      go_enter Try.func17, Try.ntmps17
      go_wp2_with fail
      refine (spcValid_any _ _ _ _).mono ?_
      rintro e w1 ⟨rfl, b1⟩
      have G := Lib.hid (And.intro (H0.out.1.below b1) (And.intro (H0.out.2.1.below b1) (below_step H0.out.2.2 (b1.mono (Nat.le_refl _)))))
      clear H0 b1
      rw [ho]
      go_wp2_with fail
      refine (l6In_any _ _ _ _).mono ?_
      rintro e w1 ⟨rfl, rfl⟩
      rw [hb']
      obtain ⟨q0, q1, q2⟩ := cells3 G.out.2.1.ab
      have z0 := G.out.2.1.fz 0
      have z1 := G.out.2.1.fz 1
      have z2 := G.out.2.1.fz 2
      have G3 := Lib.hid (And.intro (G.out.2.1.set3 0 0 0) (set3_below G.out.2.2 (Nat.le_succ _) 0 0 0))
      go_wp2
      refine bodyPost_ret (res_sAPrep _ rfl rfl (cells3 G3.out.1.ab)) rfl ?_
      exact ⟨rfl, G3.out.2⟩
  · rw [Bool.not_eq_true] at ho
    rw [show aPrep (p, a, v) b = ((0, 0, 0), false) by simp [aPrep, Ac.ok, ho]]
    have H0 := Lib.hid (two3_facts w p a v)
    unfold AVal
    go_enter Try.func17, Try.ntmps17
    go_wp2_with fail
    refine (spcValid_any _ _ _ _).mono ?_
    rintro e w1 ⟨rfl, b1⟩
    have G := Lib.hid (And.intro (H0.out.1.below b1) (And.intro (H0.out.2.1.below b1) (below_step H0.out.2.2 (b1.mono (Nat.le_refl _)))))
    clear H0 b1
    rw [ho]
    obtain ⟨q0, q1, q2⟩ := cells3 G.out.2.1.ab
    have z0 := G.out.2.1.fz 0
    have z1 := G.out.2.1.fz 1
    have z2 := G.out.2.1.fz 2
    have G3 := Lib.hid (And.intro (G.out.2.1.set3 0 0 0) (set3_below G.out.2.2 (Nat.le_succ _) 0 0 0))
    go_wp2
    refine bodyPost_ret (res_sAPrep _ rfl rfl (cells3 G3.out.1.ab)) rfl ?_
    exact ⟨rfl, G3.out.2⟩

set_option maxRecDepth 100000 in
set_option maxHeartbeats 1600000 in
theorem sAAcc_any (p a v b c : Int) (w : World) :
    Calls Try.prog 22 #[AVal p a v, .int .i64 b, .int .i64 c] w (Said3 w (aAcc (p, a, v) b c)) := by
  by_cases ho : okA p a v = true
  · by_cases hb : okB b = true
    · have hb' : decide (1 ≤ b ∧ b ≤ 20) = true := hb
      by_cases hv : okV c = true
      · by_cases h : b < p
        · have e1 : decide (b < p) = true := by simpa using h
          rw [show aAcc (p, a, v) b c = ((p, a, v), false) by simp [aAcc, Ac.ok, ho, hb, hv, acceA, h]]
          have H0 := Lib.hid (two3_facts w p a v)
          unfold AVal
          go_enter Try.func22, Try.ntmps22
          go_wp2_with fail
          refine (spcValid_any _ _ _ _).mono ?_
          rintro e w1 ⟨rfl, b1⟩
          have G := Lib.hid (And.intro (H0.out.1.below b1) (And.intro (H0.out.2.1.below b1) (below_step H0.out.2.2 (b1.mono (Nat.le_refl _)))))
          clear H0 b1
          rw [ho]
          go_wp2_with fail
          refine (l6In_any _ _ _ _).mono ?_
          rintro e w1 ⟨rfl, rfl⟩
          rw [hb']
          go_wp2_with fail
          refine (l21Value_any _ _).mono ?_
          rintro e w1 ⟨rfl, rfl⟩
          rw [hv]
          obtain ⟨q0, q1, q2⟩ := cells3 G.out.2.1.ab
          obtain ⟨p0, p1, p2⟩ := cells3 G.out.1.ab
          have z0 := G.out.2.1.fz 0
          have z1 := G.out.2.1.fz 1
          have z2 := G.out.2.1.fz 2
          have G3 := Lib.hid (And.intro (G.out.2.1.set3 p a v) (set3_below G.out.2.2 (Nat.le_succ _) p a v))
          go_wp2
          refine bodyPost_ret (res_sAAcc _ rfl rfl (cells3 G3.out.1.ab)) rfl ?_
          exact ⟨rfl, G3.out.2⟩
        · have e1 : decide (b < p) = false := by simpa using h
          rw [show aAcc (p, a, v) b c = ((b, b, c), true) by simp [aAcc, Ac.ok, ho, hb, hv, acceA, h]]
          have H0 := Lib.hid (two3_facts w p a v)
          unfold AVal
          go_enter Try.func22, Try.ntmps22
          go_wp2_with fail
          refine (spcValid_any _ _ _ _).mono ?_
          rintro e w1 ⟨rfl, b1⟩
          have G := Lib.hid (And.intro (H0.out.1.below b1) (And.intro (H0.out.2.1.below b1) (below_step H0.out.2.2 (b1.mono (Nat.le_refl _)))))
          clear H0 b1
          rw [ho]
          go_wp2_with fail
          refine (l6In_any _ _ _ _).mono ?_
          rintro e w1 ⟨rfl, rfl⟩
          rw [hb']
          go_wp2_with fail
          refine (l21Value_any _ _).mono ?_
          rintro e w1 ⟨rfl, rfl⟩
          rw [hv]
          obtain ⟨q0, q1, q2⟩ := cells3 G.out.2.1.ab
          obtain ⟨p0, p1, p2⟩ := cells3 G.out.1.ab
          have z0 := G.out.2.1.fz 0
          have z1 := G.out.2.1.fz 1
          have z2 := G.out.2.1.fz 2
          have G3 := Lib.hid (And.intro (G.out.2.1.set3 b b c) (set3_below G.out.2.2 (Nat.le_succ _) b b c))
          go_wp2
          refine bodyPost_ret (res_sAAcc _ rfl rfl (cells3 G3.out.1.ab)) rfl ?_
          exact ⟨rfl, G3.out.2⟩
      · rw [Bool.not_eq_true] at hv
        rw [show aAcc (p, a, v) b c = ((0, 0, 0), false) by simp [aAcc, hv]]
        have H0 := Lib.hid (two3_facts w p a v)
        unfold AVal
        go_enter Try.func22, Try.ntmps22
        go_wp2_with fail
        refine (spcValid_any _ _ _ _).mono ?_
        rintro e w1 ⟨rfl, b1⟩
        have G := Lib.hid (And.intro (H0.out.1.below b1) (And.intro (H0.out.2.1.below b1) (below_step H0.out.2.2 (b1.mono (Nat.le_refl _)))))
        clear H0 b1
        rw [ho]
        go_wp2_with fail
        refine (l6In_any _ _ _ _).mono ?_
        rintro e w1 ⟨rfl, rfl⟩
        rw [hb']
        go_wp2_with fail
        refine (l21Value_any _ _).mono ?_
        rintro e w1 ⟨rfl, rfl⟩
        rw [hv]
        obtain ⟨q0, q1, q2⟩ := cells3 G.out.2.1.ab
        have z0 := G.out.2.1.fz 0
        have z1 := G.out.2.1.fz 1
        have z2 := G.out.2.1.fz 2
        have G3 := Lib.hid (And.intro (G.out.2.1.set3 0 0 0) (set3_below G.out.2.2 (Nat.le_succ _) 0 0 0))
        go_wp2
        refine bodyPost_ret (res_sAAcc _ rfl rfl (cells3 G3.out.1.ab)) rfl ?_
        exact ⟨rfl, G3.out.2⟩
    · rw [Bool.not_eq_true] at hb
      have hb' : decide (1 ≤ b ∧ b ≤ 20) = false := hb
      rw [show aAcc (p, a, v) b c = ((0, 0, 0), false) by simp [aAcc, hb]]
      have H0 := Lib.hid (two3_facts w p a v)
      unfold AVal
      go_enter Try.func22, Try.ntmps22
      go_wp2_with fail
      refine (spcValid_any _ _ _ _).mono ?_
      rintro e w1 ⟨rfl, b1⟩
      have G := Lib.hid (And.intro (H0.out.1.below b1) (And.intro (H0.out.2.1.below b1) (below_step H0.out.2.2 (b1.mono (Nat.le_refl _)))))
      clear H0 b1
      rw [ho]
      go_wp2_with fail
      refine (l6In_any _ _ _ _).mono ?_
      rintro e w1 ⟨rfl, rfl⟩
      rw [hb']
      obtain ⟨q0, q1, q2⟩ := cells3 G.out.2.1.ab
      have z0 := G.out.2.1.fz 0
      have z1 := G.out.2.1.fz 1
      have z2 := G.out.2.1.fz 2
      have G3 := Lib.hid (And.intro (G.out.2.1.set3 0 0 0) (set3_below G.out.2.2 (Nat.le_succ _) 0 0 0))
      go_wp2
      refine bodyPost_ret (res_sAAcc _ rfl rfl (cells3 G3.out.1.ab)) rfl ?_
      exact ⟨rfl, G3.out.2⟩
  · rw [Bool.not_eq_true] at ho
    rw [show aAcc (p, a, v) b c = ((0, 0, 0), false) by simp [aAcc, Ac.ok, ho]]
    have H0 := Lib.hid (two3_facts w p a v)
    unfold AVal
    go_enter Try.func22, Try.ntmps22
    go_wp2_with fail
    refine (spcValid_any _ _ _ _).mono ?_
    rintro e w1 ⟨rfl, b1⟩
    have G := Lib.hid (And.intro (H0.out.1.below b1) (And.intro (H0.out.2.1.below b1) (below_step H0.out.2.2 (b1.mono (Nat.le_refl _)))))
    clear H0 b1
    rw [ho]
    obtain ⟨q0, q1, q2⟩ := cells3 G.out.2.1.ab
    have z0 := G.out.2.1.fz 0
    have z1 := G.out.2.1.fz 1
    have z2 := G.out.2.1.fz 2
    have G3 := Lib.hid (And.intro (G.out.2.1.set3 0 0 0) (set3_below G.out.2.2 (Nat.le_succ _) 0 0 0))
    go_wp2
    refine bodyPost_ret (res_sAAcc _ rfl rfl (cells3 G3.out.1.ab)) rfl ?_
    exact ⟨rfl, G3.out.2⟩

end Go.Proofs.Ytndgmglelogegaa
