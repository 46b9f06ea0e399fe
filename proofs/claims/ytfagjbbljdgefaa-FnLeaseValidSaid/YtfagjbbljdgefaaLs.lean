/- Leases: the checks, the program's and the model's, by their contracts. -/
import Derived.Test.YtfagjbbljdgefaaAcpF
import Derived.Laws.StructEq
namespace Go.Proofs.Ytfagjbbljdgefaa
open Go.RowKit

def tmOk (t : Int) : Bool := decide (0 ≤ t ∧ t ≤ 999)
def dfOk (d : Int) : Bool := decide (0 ≤ d ∧ d ≤ 99)
def hlOk (h s n : Int) : Bool := decide (1 ≤ h ∧ h ≤ 6 ∧ 0 ≤ s ∧ s ≤ 999 ∧ 1 ≤ n ∧ n ≤ 999)
def noLs (h s n : Int) : Bool := decide (h = 0 ∧ s = 0 ∧ n = 0)
def lsOk (h s n : Int) : Bool := hlOk h s n || noLs h s n
def lAct (h s n now d : Int) : Bool := lsOk h s n && tmOk now && dfOk d && hlOk h s n && decide (s ≤ now ∧ now < s + n - d)
def lExp (h s n now d : Int) : Bool := lsOk h s n && tmOk now && dfOk d && (!hlOk h s n || decide (s + n + d ≤ now))
/-- A flag, handed back. -/
def SaidB (w : World) (b : Bool) (e : Ending) (w' : World) : Prop := e = .returned (.bool b) ∧ Below w.heap.size w w'
theorem hl_parts {h s n : Int} (H : hlOk h s n = true) : 1 ≤ h ∧ h ≤ 6 ∧ 0 ≤ s ∧ s ≤ 999 ∧ 1 ≤ n ∧ n ≤ 999 := by simpa [hlOk] using H
theorem tm_parts {t : Int} (H : tmOk t = true) : 0 ≤ t ∧ t ≤ 999 := by simpa [tmOk] using H
theorem df_parts {t : Int} (H : dfOk t = true) : 0 ≤ t ∧ t ≤ 99 := by simpa [dfOk] using H
theorem no_parts {h s n : Int} (H : noLs h s n = true) : h = 0 ∧ s = 0 ∧ n = 0 := by simpa [noLs] using H
theorem no_held {h s n : Int} (H : noLs h s n = true) : hlOk h s n = false := by
  obtain ⟨rfl, rfl, rfl⟩ := no_parts H
  rfl

theorem contains63 (x : Int) (w : World) : Calls Try.prog 44 #[.int .u8 63, .int .i64 x] w fun e w' => e = .returned (.bool (decide (1 ≤ x ∧ x ≤ 6))) ∧ w = w' := by
  by_cases h : 1 ≤ x ∧ x ≤ 6
  · have e : decide (1 ≤ x ∧ x ≤ 6) = Nat.testBit 63 (x.toNat - 1) := by
      rw [decide_eq_true h]
      have hx : x.toNat - 1 = 0 ∨ x.toNat - 1 = 1 ∨ x.toNat - 1 = 2 ∨ x.toNat - 1 = 3 ∨ x.toNat - 1 = 4 ∨ x.toNat - 1 = 5 := by omega
      rcases hx with h | h | h | h | h | h <;> rw [h] <;> rfl
    rw [e]
    exact contains_in 63 x w (by decide) h.1 h.2
  · have e : decide (1 ≤ x ∧ x ≤ 6) = false := by simpa using h
    rw [e]
    exact contains_out 63 x w (by omega)

theorem isTime_any (t : Int) (w : World) :
    Calls Try.prog 39 #[.int .i64 t] w fun e w' => e = .returned (.bool (tmOk t)) ∧ w = w' := by
  by_cases h1 : 0 ≤ t
  · by_cases h2 : t ≤ 999
    · rw [show tmOk t = true by simp [tmOk]; omega]
      have e1 : decide (0 ≤ t) = true := by simpa using h1
      have e2 : decide (t ≤ 999) = true := by simpa using h2
      clear h1 h2
      go_enter Try.func39, Try.ntmps39
      go_wp2
      go_ret
      exact ⟨by simp_all, rfl⟩
    · rw [show tmOk t = false by simp [tmOk]; omega]
      have e1 : decide (0 ≤ t) = true := by simpa using h1
      have e2 : decide (t ≤ 999) = false := by simpa using h2
      clear h1 h2
      go_enter Try.func39, Try.ntmps39
      go_wp2
      go_ret
      exact ⟨by simp_all, rfl⟩
  · rw [show tmOk t = false by simp [tmOk]; omega]
    have e1 : decide (0 ≤ t) = false := by simpa using h1
    clear h1
    go_enter Try.func39, Try.ntmps39
    go_wp2
    go_ret
    exact ⟨by simp_all, rfl⟩

set_option maxRecDepth 100000 in
set_option maxHeartbeats 1600000 in
theorem isHeld_any (h s n : Int) (w : World) :
    Calls Try.prog 37 #[AVal h s n] w (SaidB w (hlOk h s n)) := by
  by_cases h1 : 1 ≤ h ∧ h ≤ 6
  · have e1 : decide (1 ≤ h ∧ h ≤ 6) = true := by simpa using h1
    by_cases h2 : 0 ≤ s ∧ s ≤ 999
    · have e2 : tmOk s = true := by simpa [tmOk] using h2
      have E := Lib.hid (And.intro e1 e2)
      by_cases h3 : 1 ≤ n
      · have e3 : decide (1 ≤ n) = true := by simpa using h3
        by_cases h4 : n ≤ 999
        · have e4 : decide (n ≤ 999) = true := by simpa using h4
          rw [show hlOk h s n = true by simp [hlOk]; omega]
          clear h1 h2 h3 h4 e1 e2
          unfold AVal
          go_enter Try.func37, Try.ntmps37
          go_wp2_with fail
          refine (contains63 _ _).mono ?_
          rintro e w1 ⟨rfl, rfl⟩
          rw [E.out.1]
          go_wp2_with fail
          refine (isTime_any _ _).mono ?_
          rintro e w1 ⟨rfl, rfl⟩
          rw [E.out.2]
          go_wp2
          go_ret
          exact ⟨by first | rfl | simp_all, (Below.refl _ w).alloc (Nat.le_refl _) _⟩
        · have e4 : decide (n ≤ 999) = false := by simpa using h4
          rw [show hlOk h s n = false by simp [hlOk]; omega]
          clear h1 h2 h3 h4 e1 e2
          unfold AVal
          go_enter Try.func37, Try.ntmps37
          go_wp2_with fail
          refine (contains63 _ _).mono ?_
          rintro e w1 ⟨rfl, rfl⟩
          rw [E.out.1]
          go_wp2_with fail
          refine (isTime_any _ _).mono ?_
          rintro e w1 ⟨rfl, rfl⟩
          rw [E.out.2]
          go_wp2
          go_ret
          exact ⟨by first | rfl | simp_all, (Below.refl _ w).alloc (Nat.le_refl _) _⟩
      · have e3 : decide (1 ≤ n) = false := by simpa using h3
        rw [show hlOk h s n = false by simp [hlOk]; omega]
        clear h1 h2 h3 e1 e2
        unfold AVal
        go_enter Try.func37, Try.ntmps37
        go_wp2_with fail
        refine (contains63 _ _).mono ?_
        rintro e w1 ⟨rfl, rfl⟩
        rw [E.out.1]
        go_wp2_with fail
        refine (isTime_any _ _).mono ?_
        rintro e w1 ⟨rfl, rfl⟩
        rw [E.out.2]
        go_wp2
        go_ret
        exact ⟨by first | rfl | simp_all, (Below.refl _ w).alloc (Nat.le_refl _) _⟩
    · have e2 : tmOk s = false := by simpa [tmOk] using h2
      have E := Lib.hid (And.intro e1 e2)
      rw [show hlOk h s n = false by simp [hlOk]; omega]
      clear h1 h2 e1 e2
      unfold AVal
      go_enter Try.func37, Try.ntmps37
      go_wp2_with fail
      refine (contains63 _ _).mono ?_
      rintro e w1 ⟨rfl, rfl⟩
      rw [E.out.1]
      go_wp2_with fail
      refine (isTime_any _ _).mono ?_
      rintro e w1 ⟨rfl, rfl⟩
      rw [E.out.2]
      go_wp2
      go_ret
      exact ⟨by first | rfl | simp_all, (Below.refl _ w).alloc (Nat.le_refl _) _⟩
  · have e1 : decide (1 ≤ h ∧ h ≤ 6) = false := by simpa using h1
    have E := Lib.hid e1
    rw [show hlOk h s n = false by simp [hlOk]; omega]
    clear h1 e1
    unfold AVal
    go_enter Try.func37, Try.ntmps37
    go_wp2_with fail
    refine (contains63 _ _).mono ?_
    rintro e w1 ⟨rfl, rfl⟩
    rw [E.out]
    go_wp2
    go_ret
    exact ⟨by first | rfl | simp_all, (Below.refl _ w).alloc (Nat.le_refl _) _⟩

set_option maxRecDepth 100000 in
set_option maxHeartbeats 1600000 in
theorem sLsValid_any (h s n : Int) (w : World) :
    Calls Try.prog 19 #[AVal h s n] w (SaidB w (lsOk h s n)) := by
  by_cases h0 : h = 0
  · subst h0
    have hh : hlOk 0 s n = false := by simp [hlOk]
    by_cases h1 : s = 0
    · subst h1
      by_cases h2 : n = 0
      · subst h2
        unfold AVal
        go_enter Try.func19, Try.ntmps19
        go_wp2
        go_ret
        exact ⟨rfl, (Below.refl _ w).alloc (Nat.le_refl _) _⟩
      · rw [show lsOk 0 0 n = false by simp [lsOk, hh, noLs, h2]]
        have e2 : (n == 0) = false := by simpa using h2
        clear h2 hh
        unfold AVal
        go_enter Try.func19, Try.ntmps19
        go_wp2
        go_ret
        exact ⟨by simp_all, (Below.refl _ w).alloc (Nat.le_refl _) _⟩
    · rw [show lsOk 0 s n = false by simp [lsOk, hh, noLs, h1]]
      have e1 : (s == 0) = false := by simpa using h1
      clear h1 hh
      unfold AVal
      go_enter Try.func19, Try.ntmps19
      go_wp2
      go_ret
      exact ⟨by simp_all, (Below.refl _ w).alloc (Nat.le_refl _) _⟩
  · have e0 : (h == 0) = false := by simpa using h0
    have el : lsOk h s n = hlOk h s n := by simp [lsOk, noLs, h0]
    rw [el]
    by_cases h1 : 1 ≤ h ∧ h ≤ 6
    · have e1 : decide (1 ≤ h ∧ h ≤ 6) = true := by simpa using h1
      by_cases h2 : 0 ≤ s ∧ s ≤ 999
      · have e2 : decide (0 ≤ s ∧ s ≤ 999) = true := by simpa using h2
        have e : hlOk h s n = decide (1 ≤ n ∧ n ≤ 999) := by simp only [hlOk]; congr 1; simp; omega
        rw [e]
        obtain ⟨t, ht⟩ : ∃ t, t = decide (1 ≤ n ∧ n ≤ 999) := ⟨_, rfl⟩
        rw [← ht]
        have E := Lib.hid (And.intro e1 (And.intro e2 ht.symm))
        clear e h0 h1 h2 e1 e2 ht el
        unfold AVal
        go_enter Try.func19, Try.ntmps19
        go_wp2_with fail
        refine (l6In_any _ _ _ _).mono ?_
        rintro e w1 ⟨rfl, rfl⟩
        rw [E.out.1]
        go_wp2_with fail
        refine (l6In_any _ _ _ _).mono ?_
        rintro e w1 ⟨rfl, rfl⟩
        rw [E.out.2.1]
        go_wp2_with fail
        refine (l6In_any _ _ _ _).mono ?_
        rintro e w1 ⟨rfl, rfl⟩
        rw [E.out.2.2]
        go_wp2
        go_ret
        exact ⟨by first | rfl | simp_all, (Below.refl _ w).alloc (Nat.le_refl _) _⟩
      · have e2 : decide (0 ≤ s ∧ s ≤ 999) = false := by simpa using h2
        rw [show hlOk h s n = false by simp [hlOk]; omega]
        have E := Lib.hid (And.intro e1 e2)
        clear h0 h1 h2 e1 e2 el
        unfold AVal
        go_enter Try.func19, Try.ntmps19
        go_wp2_with fail
        refine (l6In_any _ _ _ _).mono ?_
        rintro e w1 ⟨rfl, rfl⟩
        rw [E.out.1]
        go_wp2_with fail
        refine (l6In_any _ _ _ _).mono ?_
        rintro e w1 ⟨rfl, rfl⟩
        rw [E.out.2]
        go_wp2
        go_ret
        exact ⟨by first | rfl | simp_all, (Below.refl _ w).alloc (Nat.le_refl _) _⟩
    · have e1 : decide (1 ≤ h ∧ h ≤ 6) = false := by simpa using h1
      rw [show hlOk h s n = false by simp [hlOk]; omega]
      have E := Lib.hid e1
      clear h0 h1 e1 el
      unfold AVal
      go_enter Try.func19, Try.ntmps19
      go_wp2_with fail
      refine (l6In_any _ _ _ _).mono ?_
      rintro e w1 ⟨rfl, rfl⟩
      rw [E.out]
      go_wp2
      go_ret
      exact ⟨by first | rfl | simp_all, (Below.refl _ w).alloc (Nat.le_refl _) _⟩

theorem l23Args_any (now d : Int) (w : World) :
    Calls Try.prog 34 #[.int .i64 now, .int .i64 d] w fun e w' => e = .returned (.bool (tmOk now && dfOk d)) ∧ w = w' := by
  obtain ⟨t, ht⟩ : ∃ t, t = decide (0 ≤ now ∧ now ≤ 999) := ⟨_, rfl⟩
  obtain ⟨u, hu⟩ : ∃ t, t = decide (0 ≤ d ∧ d ≤ 99) := ⟨_, rfl⟩
  rw [show tmOk now = t from ht.symm, show dfOk d = u from hu.symm]
  have E := Lib.hid (And.intro ht.symm hu.symm)
  clear ht hu
  cases t
  · go_enter Try.func34, Try.ntmps34
    go_wp2_with fail
    refine (l6In_any _ _ _ _).mono ?_
    rintro e w1 ⟨rfl, rfl⟩
    rw [E.out.1]
    go_wp2
    go_ret
    exact ⟨by simp_all, rfl⟩
  · go_enter Try.func34, Try.ntmps34
    go_wp2_with fail
    refine (l6In_any _ _ _ _).mono ?_
    rintro e w1 ⟨rfl, rfl⟩
    rw [E.out.1]
    go_wp2_with fail
    refine (l6In_any _ _ _ _).mono ?_
    rintro e w1 ⟨rfl, rfl⟩
    rw [E.out.2]
    go_wp2
    go_ret
    exact ⟨by simp_all, rfl⟩

set_option maxRecDepth 100000 in
set_option maxHeartbeats 1600000 in
theorem iLsValid_any (h s n : Int) (w : World) :
    Calls Try.prog 25 #[AVal h s n] w (SaidB w (lsOk h s n)) := by
  by_cases h0 : h = 0 ∧ s = 0 ∧ n = 0
  · obtain ⟨rfl, rfl, rfl⟩ := h0
    unfold AVal
    go_enter Try.func25, Try.ntmps25
    go_wp2
    go_ret
    exact ⟨rfl, (Below.refl _ w).alloc (Nat.le_refl _) _⟩
  · rw [show lsOk h s n = hlOk h s n by simp only [lsOk, noLs, decide_eq_false h0, Bool.or_false]]
    obtain ⟨t, ht⟩ : ∃ t, t = hlOk h s n := ⟨_, rfl⟩
    rw [← ht]
    have HT := Lib.hid ht
    clear ht
    by_cases h1 : h = 0
    · have e1 : (h == 0) = true := by simpa using h1
      by_cases h2 : s = 0
      · have e2 : (s == 0) = true := by simpa using h2
        have e3 : (n == 0) = false := by simp only [beq_eq_false_iff_ne]; exact fun h3 => h0 ⟨h1, h2, h3⟩
        clear h0 h1 h2
        unfold AVal
        go_enter Try.func25, Try.ntmps25
        go_wp2_with fail
        refine (isHeld_any _ _ _ _).mono ?_
        rintro e w2 ⟨rfl, b2⟩
        rw [← HT.out]
        have B := Lib.hid (below_step ((Below.refl _ w).alloc (Nat.le_refl _) (.cells #[.int .i64 h, .int .i64 s, .int .i64 n] 24)) b2)
        clear b2
        go_wp2
        go_ret
        exact ⟨by simp_all, B.out⟩
      · have e2 : (s == 0) = false := by simpa using h2
        clear h0 h1 h2
        unfold AVal
        go_enter Try.func25, Try.ntmps25
        go_wp2_with fail
        refine (isHeld_any _ _ _ _).mono ?_
        rintro e w2 ⟨rfl, b2⟩
        rw [← HT.out]
        have B := Lib.hid (below_step ((Below.refl _ w).alloc (Nat.le_refl _) (.cells #[.int .i64 h, .int .i64 s, .int .i64 n] 24)) b2)
        clear b2
        go_wp2
        go_ret
        exact ⟨by simp_all, B.out⟩
    · have e1 : (h == 0) = false := by simpa using h1
      clear h0 h1
      unfold AVal
      go_enter Try.func25, Try.ntmps25
      go_wp2_with fail
      refine (isHeld_any _ _ _ _).mono ?_
      rintro e w2 ⟨rfl, b2⟩
      rw [← HT.out]
      have B := Lib.hid (below_step ((Below.refl _ w).alloc (Nat.le_refl _) (.cells #[.int .i64 h, .int .i64 s, .int .i64 n] 24)) b2)
      clear b2
      go_wp2
      go_ret
      exact ⟨by simp_all, B.out⟩

theorem lsEnd_any (h s n : Int) (w : World) (s0 : 0 ≤ s) (s1 : s ≤ 999) (n0 : 0 ≤ n) (n1 : n ≤ 999) :
    Calls Try.prog 42 #[AVal h s n] w fun e w' => e = .returned (.int .i64 (s + n)) ∧ Below w.heap.size w w' := by
  unfold AVal
  go_enter Try.func42, Try.ntmps42
  go_wp2
  go_ret
  exact ⟨by simp_all, (Below.refl _ w).alloc (Nat.le_refl _) _⟩

set_option maxRecDepth 100000 in
set_option maxHeartbeats 3200000 in
theorem sLsAct_any (h s n now d : Int) (w : World) :
    Calls Try.prog 17 #[AVal h s n, .int .i64 now, .int .i64 d] w (SaidB w (lAct h s n now d)) := by
  have H := Lib.hid (show Below w.heap.size w (w.alloc (.cells #[.int .i64 h, .int .i64 s, .int .i64 n] 24)) ∧ AF3 (w.alloc (.cells #[.int .i64 h, .int .i64 s, .int .i64 n] 24)) w.heap.size h s n from ⟨(Below.refl _ w).alloc (Nat.le_refl _) _, AF3.new w h s n _⟩)
  by_cases hl : lsOk h s n = true
  · by_cases ha : (tmOk now && dfOk d) = true
    · have E := Lib.hid (And.intro hl ha)
      obtain ⟨n0, n1⟩ := tm_parts (show tmOk now = true by revert ha; cases tmOk now <;> simp)
      obtain ⟨d0, d1⟩ := df_parts (show dfOk d = true by revert ha; cases dfOk d <;> simp)
      have hv : lAct h s n now d = (hlOk h s n && decide (s ≤ now ∧ now < s + n - d)) := by simp only [lAct, hl, Bool.true_and, ha]
      rw [hv]
      by_cases hh : hlOk h s n = true
      · obtain ⟨h0, h1, s0, s1, l0, l1⟩ := hl_parts hh
        have g0 : decide (0 < h) = true := by simp; omega
        by_cases g : s ≤ now
        · have g1 : decide (s ≤ now) = true := by simpa using g
          by_cases g' : now < s + n - d
          · have g2 : decide (now < s + n - d) = true := by simpa using g'
            rw [hh, show decide (s ≤ now ∧ now < s + n - d) = true by simp; omega]
            clear hl ha hh hv g g'
            unfold AVal
            go_enter Try.func17, Try.ntmps17
            go_wp2_with fail
            refine (sLsValid_any _ _ _ _).mono ?_
            rintro e w2 ⟨rfl, bb⟩
            rw [E.out.1]
            have H := Lib.hid (show Below w.heap.size w w2 ∧ AF3 w2 w.heap.size h s n from ⟨below_step H.out.1 bb, H.out.2.below bb⟩)
            clear bb
            obtain ⟨c0, c1, c2⟩ := cells3 H.out.2.ab
            go_wp2_with fail
            refine (l23Args_any _ _ _).mono ?_
            rintro e w3 ⟨rfl, rfl⟩
            rw [E.out.2]
            go_wp2
            go_ret
            exact ⟨by simp_all, H.out.1⟩
          · have g2 : decide (now < s + n - d) = false := by simpa using g'
            rw [hh, show decide (s ≤ now ∧ now < s + n - d) = false by simp; omega]
            clear hl ha hh hv g g'
            unfold AVal
            go_enter Try.func17, Try.ntmps17
            go_wp2_with fail
            refine (sLsValid_any _ _ _ _).mono ?_
            rintro e w2 ⟨rfl, bb⟩
            rw [E.out.1]
            have H := Lib.hid (show Below w.heap.size w w2 ∧ AF3 w2 w.heap.size h s n from ⟨below_step H.out.1 bb, H.out.2.below bb⟩)
            clear bb
            obtain ⟨c0, c1, c2⟩ := cells3 H.out.2.ab
            go_wp2_with fail
            refine (l23Args_any _ _ _).mono ?_
            rintro e w3 ⟨rfl, rfl⟩
            rw [E.out.2]
            go_wp2
            go_ret
            exact ⟨by simp_all, H.out.1⟩
        · have g1 : decide (s ≤ now) = false := by simpa using g
          rw [hh, show decide (s ≤ now ∧ now < s + n - d) = false by simp; omega]
          clear hl ha hh hv g
          unfold AVal
          go_enter Try.func17, Try.ntmps17
          go_wp2_with fail
          refine (sLsValid_any _ _ _ _).mono ?_
          rintro e w2 ⟨rfl, bb⟩
          rw [E.out.1]
          have H := Lib.hid (show Below w.heap.size w w2 ∧ AF3 w2 w.heap.size h s n from ⟨below_step H.out.1 bb, H.out.2.below bb⟩)
          clear bb
          obtain ⟨c0, c1, c2⟩ := cells3 H.out.2.ab
          go_wp2_with fail
          refine (l23Args_any _ _ _).mono ?_
          rintro e w3 ⟨rfl, rfl⟩
          rw [E.out.2]
          go_wp2
          go_ret
          exact ⟨by simp_all, H.out.1⟩
      · rw [Bool.not_eq_true] at hh
        have hn : noLs h s n = true := by revert hl; simp [lsOk, hh]
        obtain ⟨rfl, rfl, rfl⟩ := no_parts hn
        rw [hh]
        clear hl ha hh hv hn
        unfold AVal
        go_enter Try.func17, Try.ntmps17
        go_wp2_with fail
        refine (sLsValid_any _ _ _ _).mono ?_
        rintro e w2 ⟨rfl, bb⟩
        rw [E.out.1]
        have H := Lib.hid (show Below w.heap.size w w2 ∧ AF3 w2 w.heap.size 0 0 0 from ⟨below_step H.out.1 bb, H.out.2.below bb⟩)
        clear bb
        obtain ⟨c0, c1, c2⟩ := cells3 H.out.2.ab
        go_wp2_with fail
        refine (l23Args_any _ _ _).mono ?_
        rintro e w3 ⟨rfl, rfl⟩
        rw [E.out.2]
        go_wp2
        go_ret
        exact ⟨by simp_all, H.out.1⟩
    · rw [Bool.not_eq_true] at ha
      have E := Lib.hid (And.intro hl ha)
      rw [show lAct h s n now d = false by simp only [lAct, hl, Bool.true_and, ha, Bool.false_and]]
      clear hl ha
      unfold AVal
      go_enter Try.func17, Try.ntmps17
      go_wp2_with fail
      refine (sLsValid_any _ _ _ _).mono ?_
      rintro e w2 ⟨rfl, bb⟩
      rw [E.out.1]
      have H := Lib.hid (show Below w.heap.size w w2 ∧ AF3 w2 w.heap.size h s n from ⟨below_step H.out.1 bb, H.out.2.below bb⟩)
      clear bb
      obtain ⟨c0, c1, c2⟩ := cells3 H.out.2.ab
      go_wp2_with fail
      refine (l23Args_any _ _ _).mono ?_
      rintro e w3 ⟨rfl, rfl⟩
      rw [E.out.2]
      go_wp2
      go_ret
      exact ⟨by simp_all, H.out.1⟩
  · rw [Bool.not_eq_true] at hl
    have E := Lib.hid (And.intro hl trivial)
    rw [show lAct h s n now d = false by simp [lAct, hl]]
    clear hl
    unfold AVal
    go_enter Try.func17, Try.ntmps17
    go_wp2_with fail
    refine (sLsValid_any _ _ _ _).mono ?_
    rintro e w2 ⟨rfl, bb⟩
    rw [E.out.1]
    have H := Lib.hid (show Below w.heap.size w w2 ∧ AF3 w2 w.heap.size h s n from ⟨below_step H.out.1 bb, H.out.2.below bb⟩)
    clear bb
    obtain ⟨c0, c1, c2⟩ := cells3 H.out.2.ab
    go_wp2
    go_ret
    exact ⟨by simp_all, H.out.1⟩

set_option maxRecDepth 100000 in
set_option maxHeartbeats 3200000 in
theorem sLsExp_any (h s n now d : Int) (w : World) :
    Calls Try.prog 21 #[AVal h s n, .int .i64 now, .int .i64 d] w (SaidB w (lExp h s n now d)) := by
  have H := Lib.hid (show Below w.heap.size w (w.alloc (.cells #[.int .i64 h, .int .i64 s, .int .i64 n] 24)) ∧ AF3 (w.alloc (.cells #[.int .i64 h, .int .i64 s, .int .i64 n] 24)) w.heap.size h s n from ⟨(Below.refl _ w).alloc (Nat.le_refl _) _, AF3.new w h s n _⟩)
  by_cases hl : lsOk h s n = true
  · by_cases ha : (tmOk now && dfOk d) = true
    · have E := Lib.hid (And.intro hl ha)
      obtain ⟨n0, n1⟩ := tm_parts (show tmOk now = true by revert ha; cases tmOk now <;> simp)
      obtain ⟨d0, d1⟩ := df_parts (show dfOk d = true by revert ha; cases dfOk d <;> simp)
      have hv : lExp h s n now d = (!hlOk h s n || decide (s + n + d ≤ now)) := by simp only [lExp, hl, Bool.true_and, ha]
      rw [hv]
      by_cases hh : hlOk h s n = true
      · obtain ⟨h0, h1, s0, s1, l0, l1⟩ := hl_parts hh
        have g0 : (h == 0) = false := by simp; omega
        by_cases g : s + n + d ≤ now
        · have g1 : decide (s + n + d ≤ now) = true := by simpa using g
          rw [hh, g1]
          clear hl ha hh hv g
          unfold AVal
          go_enter Try.func21, Try.ntmps21
          go_wp2_with fail
          refine (sLsValid_any _ _ _ _).mono ?_
          rintro e w2 ⟨rfl, bb⟩
          rw [E.out.1]
          have H := Lib.hid (show Below w.heap.size w w2 ∧ AF3 w2 w.heap.size h s n from ⟨below_step H.out.1 bb, H.out.2.below bb⟩)
          clear bb
          obtain ⟨c0, c1, c2⟩ := cells3 H.out.2.ab
          go_wp2_with fail
          refine (l23Args_any _ _ _).mono ?_
          rintro e w3 ⟨rfl, rfl⟩
          rw [E.out.2]
          go_wp2
          go_ret
          exact ⟨by simp_all, H.out.1⟩
        · have g1 : decide (s + n + d ≤ now) = false := by simpa using g
          rw [hh, g1]
          clear hl ha hh hv g
          unfold AVal
          go_enter Try.func21, Try.ntmps21
          go_wp2_with fail
          refine (sLsValid_any _ _ _ _).mono ?_
          rintro e w2 ⟨rfl, bb⟩
          rw [E.out.1]
          have H := Lib.hid (show Below w.heap.size w w2 ∧ AF3 w2 w.heap.size h s n from ⟨below_step H.out.1 bb, H.out.2.below bb⟩)
          clear bb
          obtain ⟨c0, c1, c2⟩ := cells3 H.out.2.ab
          go_wp2_with fail
          refine (l23Args_any _ _ _).mono ?_
          rintro e w3 ⟨rfl, rfl⟩
          rw [E.out.2]
          go_wp2
          go_ret
          exact ⟨by simp_all, H.out.1⟩
      · rw [Bool.not_eq_true] at hh
        have hn : noLs h s n = true := by revert hl; simp [lsOk, hh]
        obtain ⟨rfl, rfl, rfl⟩ := no_parts hn
        rw [hh]
        clear hl ha hh hv hn
        unfold AVal
        go_enter Try.func21, Try.ntmps21
        go_wp2_with fail
        refine (sLsValid_any _ _ _ _).mono ?_
        rintro e w2 ⟨rfl, bb⟩
        rw [E.out.1]
        have H := Lib.hid (show Below w.heap.size w w2 ∧ AF3 w2 w.heap.size 0 0 0 from ⟨below_step H.out.1 bb, H.out.2.below bb⟩)
        clear bb
        obtain ⟨c0, c1, c2⟩ := cells3 H.out.2.ab
        go_wp2_with fail
        refine (l23Args_any _ _ _).mono ?_
        rintro e w3 ⟨rfl, rfl⟩
        rw [E.out.2]
        go_wp2
        go_ret
        exact ⟨by simp_all, H.out.1⟩
    · rw [Bool.not_eq_true] at ha
      have E := Lib.hid (And.intro hl ha)
      rw [show lExp h s n now d = false by simp only [lExp, hl, Bool.true_and, ha, Bool.false_and]]
      clear hl ha
      unfold AVal
      go_enter Try.func21, Try.ntmps21
      go_wp2_with fail
      refine (sLsValid_any _ _ _ _).mono ?_
      rintro e w2 ⟨rfl, bb⟩
      rw [E.out.1]
      have H := Lib.hid (show Below w.heap.size w w2 ∧ AF3 w2 w.heap.size h s n from ⟨below_step H.out.1 bb, H.out.2.below bb⟩)
      clear bb
      obtain ⟨c0, c1, c2⟩ := cells3 H.out.2.ab
      go_wp2_with fail
      refine (l23Args_any _ _ _).mono ?_
      rintro e w3 ⟨rfl, rfl⟩
      rw [E.out.2]
      go_wp2
      go_ret
      exact ⟨by simp_all, H.out.1⟩
  · rw [Bool.not_eq_true] at hl
    have E := Lib.hid (And.intro hl trivial)
    rw [show lExp h s n now d = false by simp [lExp, hl]]
    clear hl
    unfold AVal
    go_enter Try.func21, Try.ntmps21
    go_wp2_with fail
    refine (sLsValid_any _ _ _ _).mono ?_
    rintro e w2 ⟨rfl, bb⟩
    rw [E.out.1]
    have H := Lib.hid (show Below w.heap.size w w2 ∧ AF3 w2 w.heap.size h s n from ⟨below_step H.out.1 bb, H.out.2.below bb⟩)
    clear bb
    obtain ⟨c0, c1, c2⟩ := cells3 H.out.2.ab
    go_wp2
    go_ret
    exact ⟨by simp_all, H.out.1⟩
end Go.Proofs.Ytfagjbbljdgefaa
