/- The methods of the keeper of a lease, by their contracts. -/
import Derived.Test.YtfagjbbljdgefaaLo
import Derived.BigQuiet
namespace Go.Proofs.Ytfagjbbljdgefaa
open Go.RowKit
open Go.MuLone


set_option maxRecDepth 100000 in
set_option maxHeartbeats 1600000 in
theorem iLsAct_any (h s n now d : Int) (w : World) :
    Calls Try.prog 16 #[AVal h s n, .int .i64 now, .int .i64 d] w (SaidB w (lAct h s n now d)) := by
  have H := Lib.hid (show Below w.heap.size w (w.alloc (.cells #[.int .i64 h, .int .i64 s, .int .i64 n] 24)) from (Below.refl _ w).alloc (Nat.le_refl _) _)
  have HK := Lib.hid (fun W : World => keeperOf_any h s n now d W)
  unfold AVal at HK
  by_cases hok : (lsOk h s n && tmOk now && dfOk d) = true
  · have hd : dfOk d = true := by revert hok; cases dfOk d <;> simp
    obtain ⟨d0, d1⟩ := df_parts hd
    rw [show lAct h s n now d = (hlOk h s n && decide (s ≤ now ∧ now < s + n - d)) by simp only [lAct, hok, Bool.true_and]]
    obtain ⟨t, ht⟩ : ∃ t, t = (hlOk h s n && decide (s ≤ now ∧ now < s + n - d)) := ⟨_, rfl⟩
    rw [← ht]
    have HT := Lib.hid ht
    have HO := Lib.hid hok
    clear ht hok hd
    unfold AVal
    go_enter Try.func16, Try.ntmps16
    go_wp2_with fail
    refine (HK.out _).mono ?_
    rintro e w2 ⟨bb, hk⟩
    rw [if_pos HO.out] at hk
    obtain ⟨b, hb, rfl, hk⟩ := hk
    have B := Lib.hid (And.intro (below_step H.out bb) (And.intro hk (show w.heap.size ≤ b from Nat.le_trans (by simp) hb)))
    clear bb hk hb
    go_wp2_with fail
    refine (isActive_any b h s n now d _ B.out.2.1 d0 d1).mono ?_
    rintro e w3 ⟨rfl, b3⟩
    rw [← HT.out]
    have B3 := Lib.hid (B.out.1.trans (b3 _ B.out.2.2))
    clear b3
    go_wp2
    go_ret
    exact ⟨by simp_all, B3.out⟩
  · rw [Bool.not_eq_true] at hok
    rw [show lAct h s n now d = false by simp only [lAct, hok, Bool.false_and]]
    have HO := Lib.hid hok
    clear hok
    unfold AVal
    go_enter Try.func16, Try.ntmps16
    go_wp2_with fail
    refine (HK.out _).mono ?_
    rintro e w2 ⟨bb, hk⟩
    rw [HO.out] at hk
    simp only [Bool.false_eq_true, if_false] at hk
    subst hk
    have B := Lib.hid (below_step H.out bb)
    clear bb
    go_wp2
    go_ret
    exact ⟨by simp_all, B.out⟩

set_option maxRecDepth 100000 in
set_option maxHeartbeats 1600000 in
theorem iLsExp_any (h s n now d : Int) (w : World) :
    Calls Try.prog 18 #[AVal h s n, .int .i64 now, .int .i64 d] w (SaidB w (lExp h s n now d)) := by
  have H := Lib.hid (show Below w.heap.size w (w.alloc (.cells #[.int .i64 h, .int .i64 s, .int .i64 n] 24)) from (Below.refl _ w).alloc (Nat.le_refl _) _)
  have HK := Lib.hid (fun W : World => keeperOf_any h s n now d W)
  unfold AVal at HK
  by_cases hok : (lsOk h s n && tmOk now && dfOk d) = true
  · have hd : dfOk d = true := by revert hok; cases dfOk d <;> simp
    obtain ⟨d0, d1⟩ := df_parts hd
    rw [show lExp h s n now d = (!hlOk h s n || decide (s + n + d ≤ now)) by simp only [lExp, hok, Bool.true_and]]
    obtain ⟨t, ht⟩ : ∃ t, t = (!hlOk h s n || decide (s + n + d ≤ now)) := ⟨_, rfl⟩
    rw [← ht]
    have HT := Lib.hid ht
    have HO := Lib.hid hok
    clear ht hok hd
    unfold AVal
    go_enter Try.func18, Try.ntmps18
    go_wp2_with fail
    refine (HK.out _).mono ?_
    rintro e w2 ⟨bb, hk⟩
    rw [if_pos HO.out] at hk
    obtain ⟨b, hb, rfl, hk⟩ := hk
    have B := Lib.hid (And.intro (below_step H.out bb) (And.intro hk (show w.heap.size ≤ b from Nat.le_trans (by simp) hb)))
    clear bb hk hb
    go_wp2_with fail
    refine (isExpired_any b h s n now d _ B.out.2.1 d0 d1).mono ?_
    rintro e w3 ⟨rfl, b3⟩
    rw [← HT.out]
    have B3 := Lib.hid (B.out.1.trans (b3 _ B.out.2.2))
    clear b3
    go_wp2
    go_ret
    exact ⟨by simp_all, B3.out⟩
  · rw [Bool.not_eq_true] at hok
    rw [show lExp h s n now d = false by simp only [lExp, hok, Bool.false_and]]
    have HO := Lib.hid hok
    clear hok
    unfold AVal
    go_enter Try.func18, Try.ntmps18
    go_wp2_with fail
    refine (HK.out _).mono ?_
    rintro e w2 ⟨bb, hk⟩
    rw [HO.out] at hk
    simp only [Bool.false_eq_true, if_false] at hk
    subst hk
    have B := Lib.hid (below_step H.out bb)
    clear bb
    go_wp2
    go_ret
    exact ⟨by simp_all, B.out⟩

/-- What granting a lease says. -/
def lGr (h s n h' now len d : Int) : Ac × Bool := if (lsOk h s n && decide (1 ≤ h' ∧ h' ≤ 6) && (tmOk now && dfOk d) && decide (1 ≤ len ∧ len ≤ 999)) = true then gr0 h s n d h' now len else ((0, 0, 0), false)
theorem gr_held {h' now len : Int} : hlOk h' now len = (decide (1 ≤ h' ∧ h' ≤ 6) && tmOk now && decide (1 ≤ len ∧ len ≤ 999)) := by
  rw [Bool.eq_iff_iff]
  simp [hlOk, tmOk]
  omega
theorem res_iLsGr {W : World} {b : Nat} {p a v : Int} {ok : Bool} (tmps : Array Value) (h2 : tmps.getD 10 undef = .pointer (some ⟨b, 0, none⟩)) (h3 : tmps.getD 11 undef = .bool ok) (h : AF3 W b p a v) :
    (results Try.f24 tmps).run Try.prog W = .ok (.tuple #[AVal p a v, .bool ok]) W := by
  obtain ⟨q0, q1, q2⟩ := cells3 h.ab
  rw [results_cell_tmp rfl, h2, h3]
  go_simp
  rfl
theorem res_sLsGr {W : World} {b : Nat} {p a v : Int} {ok : Bool} (tmps : Array Value) (h2 : tmps.getD 10 undef = .pointer (some ⟨b, 0, none⟩)) (h3 : tmps.getD 11 undef = .bool ok) (h : AF3 W b p a v) :
    (results Try.f23 tmps).run Try.prog W = .ok (.tuple #[AVal p a v, .bool ok]) W := by
  obtain ⟨q0, q1, q2⟩ := cells3 h.ab
  rw [results_cell_tmp rfl, h2, h3]
  go_simp
  rfl

/-- While a lease is granted: the box of the lease, the place for the result. -/
theorem AF3.both {w W : World} {h s n : Int} (hb : Below (two3w w h s n 0 0 0).heap.size (two3w w h s n 0 0 0) W) : AF3 W w.heap.size h s n ∧ AF3 W (w.heap.size + 1) 0 0 0 ∧ Below w.heap.size w W := by
  obtain ⟨x, y, z⟩ := two3L w h s n 0 0 0
  exact ⟨x.below hb, y.below hb, below_step z hb⟩
theorem AF3.drop {w : World} {h s n h' s' n' : Int} : Below (two3w w h s n 0 0 0).heap.size (two3w w h s n 0 0 0) ((two3w w h s n 0 0 0).alloc (.cells #[.int .i64 h', .int .i64 s', .int .i64 n'] 24)) := (Below.refl _ _).alloc (Nat.le_refl _) _

set_option maxRecDepth 100000 in
set_option maxHeartbeats 3200000 in
theorem iLsGr_any (h s n h' now len d : Int) (w : World) :
    Calls Try.prog 24 #[AVal h s n, .int .i64 h', .int .i64 now, .int .i64 len, .int .i64 d] w (Said3 w (lGr h s n h' now len d)) := by
  have H := Lib.hid (AF3.drop (w := w) (h := h) (s := s) (n := n) (h' := h') (s' := now) (n' := len))
  have HN := Lib.hid (show AF3 ((two3w w h s n 0 0 0).alloc (.cells #[.int .i64 h', .int .i64 now, .int .i64 len] 24)) (w.heap.size + 1 + 1) h' now len from by simpa [two3w] using AF3.new (two3w w h s n 0 0 0) h' now len 24)
  have HK := Lib.hid (fun W : World => keeperOf_any h s n now d W)
  have HI := Lib.hid (fun W : World => isHeld_any h' now len W)
  unfold AVal at HK HI
  by_cases hok : (lsOk h s n && tmOk now && dfOk d) = true
  · have hd : dfOk d = true := by revert hok; cases dfOk d <;> simp
    have ht : tmOk now = true := by revert hok; cases tmOk now <;> simp
    have hl : lsOk h s n = true := by revert hok; cases lsOk h s n <;> simp
    obtain ⟨d0, d1⟩ := df_parts hd
    have er : lGr h s n h' now len d = if hlOk h' now len = true then gr0 h s n d h' now len else ((0, 0, 0), false) := by
      unfold lGr
      rw [gr_held, hl, ht, hd]
      simp only [Bool.true_and, Bool.and_true]
    rw [er]
    have HO := Lib.hid hok
    clear hok hd ht hl er
    by_cases hn : hlOk h' now len = true
    · rw [if_pos hn]
      obtain ⟨⟨⟨p, a, v⟩, t⟩, hr⟩ : ∃ r, r = gr0 h s n d h' now len := ⟨_, rfl⟩
      rw [← hr]
      have HR := Lib.hid hr
      have HNN := Lib.hid hn
      have HG := Lib.hid (fun (b : Nat) (W : World) (k : KB W b 0 h s n d) => grant_any b h s n d h' now len W k d0 d1 hn)
      unfold AVal at HG
      clear hr hn
      unfold two3w at H HN
      unfold AVal
      go_enter Try.func24, Try.ntmps24
      go_wp2_with fail
      refine (HK.out _).mono ?_
      rintro e w2 ⟨bb, hk⟩
      rw [if_pos HO.out] at hk
      obtain ⟨b, hb, rfl, hk⟩ := hk
      have hne : w.heap.size + 1 < b := by simp at hb; omega
      have B := Lib.hid (And.intro (below_step H.out bb) (And.intro hk (And.intro hne (HN.out.below bb))))
      clear bb hk hb
      obtain ⟨c0, c1, c2⟩ := cells3 B.out.2.2.2.ab
      go_wp2_with fail
      refine (HI.out _).mono ?_
      rintro e w3 ⟨rfl, b3⟩
      rw [HNN.out]
      have B3 := Lib.hid (And.intro (below_step B.out.1 b3) (And.intro (B.out.2.1.below b3) (B.out.2.2.2.below b3)))
      clear b3 c0 c1 c2
      obtain ⟨c0, c1, c2⟩ := cells3 B3.out.2.2.ab
      go_wp2_with fail
      refine (HG.out b _ B3.out.2.1).mono ?_
      rintro e w4 ⟨rfl, b4⟩
      rw [← HR.out]
      have e4 := AF3.both (B3.out.1)
      have B4 := Lib.hid (And.intro (e4.2.1.kept ((b4 (w.heap.size + 1 + 1) B.out.2.2.1).block _ (by omega))) (e4.2.2.trans (b4 w.heap.size (by have := B.out.2.2.1; omega))))
      clear b4 e4 c0 c1 c2
      simp only [Ac.val, AVal]
      obtain ⟨q0, q1, q2⟩ := cells3 B4.out.1.ab
      have z0 := B4.out.1.fz 0
      have z1 := B4.out.1.fz 1
      have z2 := B4.out.1.fz 2
      go_wp2
      refine bodyPost_ret (res_iLsGr _ rfl rfl (B4.out.1.set3 p a v)) rfl ?_
      exact ⟨rfl, set3_below B4.out.2 (Nat.le_succ _) p a v⟩
    · rw [if_neg hn]
      rw [Bool.not_eq_true] at hn
      have HNN := Lib.hid hn
      clear hn
      unfold two3w at H HN
      unfold AVal
      go_enter Try.func24, Try.ntmps24
      go_wp2_with fail
      refine (HK.out _).mono ?_
      rintro e w2 ⟨bb, hk⟩
      rw [if_pos HO.out] at hk
      obtain ⟨b, hb, rfl, hk⟩ := hk
      have B := Lib.hid (And.intro (below_step H.out bb) (HN.out.below bb))
      clear bb hk hb
      obtain ⟨c0, c1, c2⟩ := cells3 B.out.2.ab
      go_wp2_with fail
      refine (HI.out _).mono ?_
      rintro e w3 ⟨rfl, b3⟩
      rw [HNN.out]
      have B4 := Lib.hid (AF3.both (below_step B.out.1 b3)).2
      clear b3 c0 c1 c2
      obtain ⟨q0, q1, q2⟩ := cells3 B4.out.1.ab
      have z0 := B4.out.1.fz 0
      have z1 := B4.out.1.fz 1
      have z2 := B4.out.1.fz 2
      go_wp2
      refine bodyPost_ret (res_iLsGr _ rfl rfl (B4.out.1.set3 0 0 0)) rfl ?_
      exact ⟨rfl, set3_below B4.out.2 (Nat.le_succ _) 0 0 0⟩
  · rw [Bool.not_eq_true] at hok
    have er : lGr h s n h' now len d = ((0, 0, 0), false) := by
      unfold lGr
      rw [if_neg]
      revert hok
      cases lsOk h s n <;> cases tmOk now <;> cases dfOk d <;> simp
    rw [er]
    have HO := Lib.hid hok
    clear hok er
    unfold two3w at H HN
    unfold AVal
    go_enter Try.func24, Try.ntmps24
    go_wp2_with fail
    refine (HK.out _).mono ?_
    rintro e w2 ⟨bb, hk⟩
    rw [HO.out] at hk
    simp only [Bool.false_eq_true, if_false] at hk
    subst hk
    have B4 := Lib.hid (AF3.both (below_step H.out bb)).2
    clear bb
    obtain ⟨q0, q1, q2⟩ := cells3 B4.out.1.ab
    have z0 := B4.out.1.fz 0
    have z1 := B4.out.1.fz 1
    have z2 := B4.out.1.fz 2
    go_wp2
    refine bodyPost_ret (res_iLsGr _ rfl rfl (B4.out.1.set3 0 0 0)) rfl ?_
    exact ⟨rfl, set3_below B4.out.2 (Nat.le_succ _) 0 0 0⟩

set_option maxRecDepth 100000 in
set_option maxHeartbeats 3200000 in
theorem sLsGr_any (h s n h' now len d : Int) (w : World) :
    Calls Try.prog 23 #[AVal h s n, .int .i64 h', .int .i64 now, .int .i64 len, .int .i64 d] w (Said3 w (lGr h s n h' now len d)) := by
  have H := Lib.hid (Below.refl (two3w w h s n 0 0 0).heap.size (two3w w h s n 0 0 0))
  have HV := Lib.hid (fun W : World => sLsValid_any h s n W)
  have HE := Lib.hid (fun W : World => sLsExp_any h s n now d W)
  unfold AVal at HV HE
  by_cases hl : lsOk h s n = true
  · by_cases hh : decide (1 ≤ h' ∧ h' ≤ 6) = true
    · by_cases ha : (tmOk now && dfOk d) = true
      · by_cases hn : decide (1 ≤ len ∧ len ≤ 999) = true
        · rw [show lGr h s n h' now len d = gr0 h s n d h' now len by unfold lGr; rw [hl, hh, ha, hn]; rfl]
          have ex : lExp h s n now d = (!hlOk h s n || decide (s + n + d ≤ now)) := by unfold lExp; rw [hl]; simp only [Bool.true_and, ha]
          by_cases ht : (!hlOk h s n || decide (s + n + d ≤ now)) = true
          · rw [show gr0 h s n d h' now len = ((h', now, len), true) by unfold gr0; rw [ht]; rfl]
            have E := Lib.hid (And.intro hl (And.intro hh (And.intro ha (And.intro hn (ex.trans ht)))))
            clear hl hh ha hn ex ht
            unfold two3w at H
            unfold AVal
            go_enter Try.func23, Try.ntmps23
            go_wp2_with fail
            refine (HV.out _).mono ?_
            rintro e w2 ⟨rfl, bb⟩
            rw [E.out.1]
            have H := Lib.hid (below_step H.out bb)
            clear bb
            first | clear x0 x1 x2 q0 q1 q2 z0 z1 z2 | skip
            obtain ⟨x0, x1, x2⟩ := cells3 (AF3.both H.out).1.ab
            obtain ⟨q0, q1, q2⟩ := cells3 (AF3.both H.out).2.1.ab
            have z0 := (AF3.both H.out).2.1.fz 0
            have z1 := (AF3.both H.out).2.1.fz 1
            have z2 := (AF3.both H.out).2.1.fz 2
            go_wp2_with fail
            refine (l6In_any _ _ _ _).mono ?_
            rintro e w9 ⟨rfl, rfl⟩
            rw [E.out.2.1]
            go_wp2_with fail
            refine (l23Args_any _ _ _).mono ?_
            rintro e w9 ⟨rfl, rfl⟩
            rw [E.out.2.2.1]
            go_wp2_with fail
            refine (l6In_any _ _ _ _).mono ?_
            rintro e w9 ⟨rfl, rfl⟩
            rw [E.out.2.2.2.1]
            go_wp2_with fail
            refine (HE.out _).mono ?_
            rintro e w3 ⟨rfl, bb⟩
            rw [E.out.2.2.2.2]
            have H := Lib.hid (below_step H.out bb)
            clear bb
            first | clear x0 x1 x2 q0 q1 q2 z0 z1 z2 | skip
            obtain ⟨x0, x1, x2⟩ := cells3 (AF3.both H.out).1.ab
            obtain ⟨q0, q1, q2⟩ := cells3 (AF3.both H.out).2.1.ab
            have z0 := (AF3.both H.out).2.1.fz 0
            have z1 := (AF3.both H.out).2.1.fz 1
            have z2 := (AF3.both H.out).2.1.fz 2
            go_wp2
            refine bodyPost_ret (res_sLsGr _ rfl rfl ((AF3.both H.out).2.1.set3 h' now len)) rfl ?_
            exact ⟨rfl, set3_below (AF3.both H.out).2.2 (Nat.le_succ _) h' now len⟩
          · rw [Bool.not_eq_true] at ht
            have E := Lib.hid (And.intro hl (And.intro hh (And.intro ha (And.intro hn (ex.trans ht)))))
            have hhl : hlOk h s n = true := by revert ht; cases hlOk h s n <;> simp
            obtain ⟨h0, h1, s0, s1, l0, l1⟩ := hl_parts hhl
            obtain ⟨n0, n1⟩ := tm_parts (show tmOk now = true by revert ha; cases tmOk now <;> simp)
            obtain ⟨m0, m1⟩ : 1 ≤ len ∧ len ≤ 999 := by simpa using hn
            have eg : gr0 h s n d h' now len = if extBy h s n h' now len = true then ((h', now, len), true) else ((h, s, n), false) := by unfold gr0; rw [ht]; rfl
            rw [eg]
            clear hl hh ha hn ex ht hhl eg
            by_cases g1 : h = h'
            · subst g1
              by_cases g2 : s ≤ now
              · have e2 : decide (now < s) = false := by simp; omega
                by_cases g3 : s + n ≤ now + len
                · have e3 : decide (now + len < s + n) = false := by simp; omega
                  rw [if_pos (show extBy h s n h now len = true by simp [extBy, g2, g3])]
                  clear g2 g3
                  unfold two3w at H
                  unfold AVal
                  go_enter Try.func23, Try.ntmps23
                  go_wp2_with fail
                  refine (HV.out _).mono ?_
                  rintro e w2 ⟨rfl, bb⟩
                  rw [E.out.1]
                  have H := Lib.hid (below_step H.out bb)
                  clear bb
                  first | clear x0 x1 x2 q0 q1 q2 z0 z1 z2 | skip
                  obtain ⟨x0, x1, x2⟩ := cells3 (AF3.both H.out).1.ab
                  obtain ⟨q0, q1, q2⟩ := cells3 (AF3.both H.out).2.1.ab
                  have z0 := (AF3.both H.out).2.1.fz 0
                  have z1 := (AF3.both H.out).2.1.fz 1
                  have z2 := (AF3.both H.out).2.1.fz 2
                  go_wp2_with fail
                  refine (l6In_any _ _ _ _).mono ?_
                  rintro e w9 ⟨rfl, rfl⟩
                  rw [E.out.2.1]
                  go_wp2_with fail
                  refine (l23Args_any _ _ _).mono ?_
                  rintro e w9 ⟨rfl, rfl⟩
                  rw [E.out.2.2.1]
                  go_wp2_with fail
                  refine (l6In_any _ _ _ _).mono ?_
                  rintro e w9 ⟨rfl, rfl⟩
                  rw [E.out.2.2.2.1]
                  go_wp2_with fail
                  refine (HE.out _).mono ?_
                  rintro e w3 ⟨rfl, bb⟩
                  rw [E.out.2.2.2.2]
                  have H := Lib.hid (below_step H.out bb)
                  clear bb
                  first | clear x0 x1 x2 q0 q1 q2 z0 z1 z2 | skip
                  obtain ⟨x0, x1, x2⟩ := cells3 (AF3.both H.out).1.ab
                  obtain ⟨q0, q1, q2⟩ := cells3 (AF3.both H.out).2.1.ab
                  have z0 := (AF3.both H.out).2.1.fz 0
                  have z1 := (AF3.both H.out).2.1.fz 1
                  have z2 := (AF3.both H.out).2.1.fz 2
                  go_wp2
                  refine bodyPost_ret (res_sLsGr _ rfl rfl ((AF3.both H.out).2.1.set3 h now len)) rfl ?_
                  exact ⟨rfl, set3_below (AF3.both H.out).2.2 (Nat.le_succ _) h now len⟩
                · have e3 : decide (now + len < s + n) = true := by simp; omega
                  rw [if_neg (show ¬ extBy h s n h now len = true by simp [extBy, g3])]
                  clear g2 g3
                  unfold two3w at H
                  unfold AVal
                  go_enter Try.func23, Try.ntmps23
                  go_wp2_with fail
                  refine (HV.out _).mono ?_
                  rintro e w2 ⟨rfl, bb⟩
                  rw [E.out.1]
                  have H := Lib.hid (below_step H.out bb)
                  clear bb
                  first | clear x0 x1 x2 q0 q1 q2 z0 z1 z2 | skip
                  obtain ⟨x0, x1, x2⟩ := cells3 (AF3.both H.out).1.ab
                  obtain ⟨q0, q1, q2⟩ := cells3 (AF3.both H.out).2.1.ab
                  have z0 := (AF3.both H.out).2.1.fz 0
                  have z1 := (AF3.both H.out).2.1.fz 1
                  have z2 := (AF3.both H.out).2.1.fz 2
                  go_wp2_with fail
                  refine (l6In_any _ _ _ _).mono ?_
                  rintro e w9 ⟨rfl, rfl⟩
                  rw [E.out.2.1]
                  go_wp2_with fail
                  refine (l23Args_any _ _ _).mono ?_
                  rintro e w9 ⟨rfl, rfl⟩
                  rw [E.out.2.2.1]
                  go_wp2_with fail
                  refine (l6In_any _ _ _ _).mono ?_
                  rintro e w9 ⟨rfl, rfl⟩
                  rw [E.out.2.2.2.1]
                  go_wp2_with fail
                  refine (HE.out _).mono ?_
                  rintro e w3 ⟨rfl, bb⟩
                  rw [E.out.2.2.2.2]
                  have H := Lib.hid (below_step H.out bb)
                  clear bb
                  first | clear x0 x1 x2 q0 q1 q2 z0 z1 z2 | skip
                  obtain ⟨x0, x1, x2⟩ := cells3 (AF3.both H.out).1.ab
                  obtain ⟨q0, q1, q2⟩ := cells3 (AF3.both H.out).2.1.ab
                  have z0 := (AF3.both H.out).2.1.fz 0
                  have z1 := (AF3.both H.out).2.1.fz 1
                  have z2 := (AF3.both H.out).2.1.fz 2
                  go_wp2
                  refine bodyPost_ret (res_sLsGr _ rfl rfl ((AF3.both H.out).2.1.set3 h s n)) rfl ?_
                  exact ⟨rfl, set3_below (AF3.both H.out).2.2 (Nat.le_succ _) h s n⟩
              · have e2 : decide (now < s) = true := by simp; omega
                rw [if_neg (show ¬ extBy h s n h now len = true by simp [extBy, g2])]
                clear g2
                unfold two3w at H
                unfold AVal
                go_enter Try.func23, Try.ntmps23
                go_wp2_with fail
                refine (HV.out _).mono ?_
                rintro e w2 ⟨rfl, bb⟩
                rw [E.out.1]
                have H := Lib.hid (below_step H.out bb)
                clear bb
                first | clear x0 x1 x2 q0 q1 q2 z0 z1 z2 | skip
                obtain ⟨x0, x1, x2⟩ := cells3 (AF3.both H.out).1.ab
                obtain ⟨q0, q1, q2⟩ := cells3 (AF3.both H.out).2.1.ab
                have z0 := (AF3.both H.out).2.1.fz 0
                have z1 := (AF3.both H.out).2.1.fz 1
                have z2 := (AF3.both H.out).2.1.fz 2
                go_wp2_with fail
                refine (l6In_any _ _ _ _).mono ?_
                rintro e w9 ⟨rfl, rfl⟩
                rw [E.out.2.1]
                go_wp2_with fail
                refine (l23Args_any _ _ _).mono ?_
                rintro e w9 ⟨rfl, rfl⟩
                rw [E.out.2.2.1]
                go_wp2_with fail
                refine (l6In_any _ _ _ _).mono ?_
                rintro e w9 ⟨rfl, rfl⟩
                rw [E.out.2.2.2.1]
                go_wp2_with fail
                refine (HE.out _).mono ?_
                rintro e w3 ⟨rfl, bb⟩
                rw [E.out.2.2.2.2]
                have H := Lib.hid (below_step H.out bb)
                clear bb
                first | clear x0 x1 x2 q0 q1 q2 z0 z1 z2 | skip
                obtain ⟨x0, x1, x2⟩ := cells3 (AF3.both H.out).1.ab
                obtain ⟨q0, q1, q2⟩ := cells3 (AF3.both H.out).2.1.ab
                have z0 := (AF3.both H.out).2.1.fz 0
                have z1 := (AF3.both H.out).2.1.fz 1
                have z2 := (AF3.both H.out).2.1.fz 2
                go_wp2
                refine bodyPost_ret (res_sLsGr _ rfl rfl ((AF3.both H.out).2.1.set3 h s n)) rfl ?_
                exact ⟨rfl, set3_below (AF3.both H.out).2.2 (Nat.le_succ _) h s n⟩
            · have e1 : (h == h') = false := by simpa using g1
              rw [if_neg (show ¬ extBy h s n h' now len = true by simp [extBy, Ne.symm g1])]
              unfold two3w at H
              unfold AVal
              go_enter Try.func23, Try.ntmps23
              go_wp2_with fail
              refine (HV.out _).mono ?_
              rintro e w2 ⟨rfl, bb⟩
              rw [E.out.1]
              have H := Lib.hid (below_step H.out bb)
              clear bb
              first | clear x0 x1 x2 q0 q1 q2 z0 z1 z2 | skip
              obtain ⟨x0, x1, x2⟩ := cells3 (AF3.both H.out).1.ab
              obtain ⟨q0, q1, q2⟩ := cells3 (AF3.both H.out).2.1.ab
              have z0 := (AF3.both H.out).2.1.fz 0
              have z1 := (AF3.both H.out).2.1.fz 1
              have z2 := (AF3.both H.out).2.1.fz 2
              go_wp2_with fail
              refine (l6In_any _ _ _ _).mono ?_
              rintro e w9 ⟨rfl, rfl⟩
              rw [E.out.2.1]
              go_wp2_with fail
              refine (l23Args_any _ _ _).mono ?_
              rintro e w9 ⟨rfl, rfl⟩
              rw [E.out.2.2.1]
              go_wp2_with fail
              refine (l6In_any _ _ _ _).mono ?_
              rintro e w9 ⟨rfl, rfl⟩
              rw [E.out.2.2.2.1]
              go_wp2_with fail
              refine (HE.out _).mono ?_
              rintro e w3 ⟨rfl, bb⟩
              rw [E.out.2.2.2.2]
              have H := Lib.hid (below_step H.out bb)
              clear bb
              first | clear x0 x1 x2 q0 q1 q2 z0 z1 z2 | skip
              obtain ⟨x0, x1, x2⟩ := cells3 (AF3.both H.out).1.ab
              obtain ⟨q0, q1, q2⟩ := cells3 (AF3.both H.out).2.1.ab
              have z0 := (AF3.both H.out).2.1.fz 0
              have z1 := (AF3.both H.out).2.1.fz 1
              have z2 := (AF3.both H.out).2.1.fz 2
              go_wp2
              refine bodyPost_ret (res_sLsGr _ rfl rfl ((AF3.both H.out).2.1.set3 h s n)) rfl ?_
              exact ⟨rfl, set3_below (AF3.both H.out).2.2 (Nat.le_succ _) h s n⟩
        · rw [Bool.not_eq_true] at hn
          rw [show lGr h s n h' now len d = ((0, 0, 0), false) by unfold lGr; rw [hn]; simp]
          have E := Lib.hid (And.intro hl (And.intro hh (And.intro ha (And.intro hn trivial))))
          clear hl hh ha hn
          unfold two3w at H
          unfold AVal
          go_enter Try.func23, Try.ntmps23
          go_wp2_with fail
          refine (HV.out _).mono ?_
          rintro e w2 ⟨rfl, bb⟩
          rw [E.out.1]
          have H := Lib.hid (below_step H.out bb)
          clear bb
          first | clear x0 x1 x2 q0 q1 q2 z0 z1 z2 | skip
          obtain ⟨x0, x1, x2⟩ := cells3 (AF3.both H.out).1.ab
          obtain ⟨q0, q1, q2⟩ := cells3 (AF3.both H.out).2.1.ab
          have z0 := (AF3.both H.out).2.1.fz 0
          have z1 := (AF3.both H.out).2.1.fz 1
          have z2 := (AF3.both H.out).2.1.fz 2
          go_wp2_with fail
          refine (l6In_any _ _ _ _).mono ?_
          rintro e w9 ⟨rfl, rfl⟩
          rw [E.out.2.1]
          go_wp2_with fail
          refine (l23Args_any _ _ _).mono ?_
          rintro e w9 ⟨rfl, rfl⟩
          rw [E.out.2.2.1]
          go_wp2_with fail
          refine (l6In_any _ _ _ _).mono ?_
          rintro e w9 ⟨rfl, rfl⟩
          rw [E.out.2.2.2.1]
          go_wp2
          refine bodyPost_ret (res_sLsGr _ rfl rfl ((AF3.both H.out).2.1.set3 0 0 0)) rfl ?_
          exact ⟨rfl, set3_below (AF3.both H.out).2.2 (Nat.le_succ _) 0 0 0⟩
      · rw [Bool.not_eq_true] at ha
        rw [show lGr h s n h' now len d = ((0, 0, 0), false) by unfold lGr; rw [ha]; simp]
        have E := Lib.hid (And.intro hl (And.intro hh (And.intro ha trivial)))
        clear hl hh ha
        unfold two3w at H
        unfold AVal
        go_enter Try.func23, Try.ntmps23
        go_wp2_with fail
        refine (HV.out _).mono ?_
        rintro e w2 ⟨rfl, bb⟩
        rw [E.out.1]
        have H := Lib.hid (below_step H.out bb)
        clear bb
        first | clear x0 x1 x2 q0 q1 q2 z0 z1 z2 | skip
        obtain ⟨x0, x1, x2⟩ := cells3 (AF3.both H.out).1.ab
        obtain ⟨q0, q1, q2⟩ := cells3 (AF3.both H.out).2.1.ab
        have z0 := (AF3.both H.out).2.1.fz 0
        have z1 := (AF3.both H.out).2.1.fz 1
        have z2 := (AF3.both H.out).2.1.fz 2
        go_wp2_with fail
        refine (l6In_any _ _ _ _).mono ?_
        rintro e w9 ⟨rfl, rfl⟩
        rw [E.out.2.1]
        go_wp2_with fail
        refine (l23Args_any _ _ _).mono ?_
        rintro e w9 ⟨rfl, rfl⟩
        rw [E.out.2.2.1]
        go_wp2
        refine bodyPost_ret (res_sLsGr _ rfl rfl ((AF3.both H.out).2.1.set3 0 0 0)) rfl ?_
        exact ⟨rfl, set3_below (AF3.both H.out).2.2 (Nat.le_succ _) 0 0 0⟩
    · rw [Bool.not_eq_true] at hh
      rw [show lGr h s n h' now len d = ((0, 0, 0), false) by unfold lGr; rw [hh]; simp]
      have E := Lib.hid (And.intro hl (And.intro hh trivial))
      clear hl hh
      unfold two3w at H
      unfold AVal
      go_enter Try.func23, Try.ntmps23
      go_wp2_with fail
      refine (HV.out _).mono ?_
      rintro e w2 ⟨rfl, bb⟩
      rw [E.out.1]
      have H := Lib.hid (below_step H.out bb)
      clear bb
      first | clear x0 x1 x2 q0 q1 q2 z0 z1 z2 | skip
      obtain ⟨x0, x1, x2⟩ := cells3 (AF3.both H.out).1.ab
      obtain ⟨q0, q1, q2⟩ := cells3 (AF3.both H.out).2.1.ab
      have z0 := (AF3.both H.out).2.1.fz 0
      have z1 := (AF3.both H.out).2.1.fz 1
      have z2 := (AF3.both H.out).2.1.fz 2
      go_wp2_with fail
      refine (l6In_any _ _ _ _).mono ?_
      rintro e w9 ⟨rfl, rfl⟩
      rw [E.out.2.1]
      go_wp2
      refine bodyPost_ret (res_sLsGr _ rfl rfl ((AF3.both H.out).2.1.set3 0 0 0)) rfl ?_
      exact ⟨rfl, set3_below (AF3.both H.out).2.2 (Nat.le_succ _) 0 0 0⟩
  · rw [Bool.not_eq_true] at hl
    rw [show lGr h s n h' now len d = ((0, 0, 0), false) by unfold lGr; rw [hl]; simp]
    have E := Lib.hid (And.intro hl trivial)
    clear hl
    unfold two3w at H
    unfold AVal
    go_enter Try.func23, Try.ntmps23
    go_wp2_with fail
    refine (HV.out _).mono ?_
    rintro e w2 ⟨rfl, bb⟩
    rw [E.out.1]
    have H := Lib.hid (below_step H.out bb)
    clear bb
    first | clear x0 x1 x2 q0 q1 q2 z0 z1 z2 | skip
    obtain ⟨x0, x1, x2⟩ := cells3 (AF3.both H.out).1.ab
    obtain ⟨q0, q1, q2⟩ := cells3 (AF3.both H.out).2.1.ab
    have z0 := (AF3.both H.out).2.1.fz 0
    have z1 := (AF3.both H.out).2.1.fz 1
    have z2 := (AF3.both H.out).2.1.fz 2
    go_wp2
    refine bodyPost_ret (res_sLsGr _ rfl rfl ((AF3.both H.out).2.1.set3 0 0 0)) rfl ?_
    exact ⟨rfl, set3_below (AF3.both H.out).2.2 (Nat.le_succ _) 0 0 0⟩

theorem res_toL {W : World} {b : Nat} {p a v : Int} (tmps : Array Value) (h2 : tmps.getD 2 undef = .pointer (some ⟨b, 0, none⟩)) (h : AF3 W b p a v) :
    (results Try.f27 tmps).run Try.prog W = .ok (AVal p a v) W := by
  obtain ⟨q0, q1, q2⟩ := cells3 h.ab
  rw [results_one rfl, h2]
  go_simp
  rfl
theorem toLs_any (p a v : Int) (w : World) :
    Calls Try.prog 27 #[AVal p a v] w fun e w' => e = .returned (AVal p a v) ∧ Below w.heap.size w w' := by
  unfold AVal
  go_enter Try.func27, Try.ntmps27
  go_wp2
  refine bodyPost_ret (res_toL (p := p) (a := a) (v := v) _ rfl (AF3.alloc (by simpa using AF3.new (w.alloc _) p a v _) _)) rfl ?_
  exact ⟨rfl, (((Below.refl _ w).alloc (Nat.le_refl _) _).alloc (by simp) _).alloc (by simp; omega) _⟩

theorem eqLs_same (p a v : Int) (w : World) :
    Calls Try.prog 28 #[AVal p a v, AVal p a v] w fun e w' => e = .returned (.bool true) ∧ Below w.heap.size w w' := by
  unfold AVal
  go_enter Try.func28, Try.ntmps28
  go_wp2
  go_ret
  exact ⟨rfl, ((Below.refl _ w).alloc (Nat.le_refl _) _).alloc (by simp) _⟩
end Go.Proofs.Ytfagjbbljdgefaa
