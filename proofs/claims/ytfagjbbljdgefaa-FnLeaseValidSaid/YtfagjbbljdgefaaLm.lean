/- The methods of the keeper of a lease, by their contracts. -/
import Derived.Test.YtfagjbbljdgefaaLk
import Derived.BigQuiet
namespace Go.Proofs.Ytfagjbbljdgefaa
open Go.RowKit
open Go.MuLone

set_option maxRecDepth 100000 in
set_option maxHeartbeats 3200000 in
theorem expired_any (b : Nat) (st h s n now d : Int) (w : World) (hk : KB w b st h s n d) (hd0 : 0 ≤ d) (hd1 : d ≤ 99) :
    Calls Try.prog 43 #[.pointer (some ⟨b, 0, none⟩), .int .i64 now] w (SaidB w (!hlOk h s n || decide (s + n + d ≤ now))) := by
  have HK := Lib.hid hk
  obtain ⟨c0, c2, c3, c4, c5⟩ := hk.cs
  clear hk
  by_cases hh : hlOk h s n = true
  · obtain ⟨h0, h1, s0, s1, l0, l1⟩ := hl_parts hh
    have l0' : 0 ≤ n := by omega
    have HH := Lib.hid hh
    rw [hh]
    have hI := Lib.hid (fun W : World => isHeld_any h s n W)
    have hE := Lib.hid (fun W : World => lsEnd_any h s n W s0 s1 l0' l1)
    unfold AVal at hI hE
    have hw : IntKind.i64.wrap (s + n + d) = s + n + d := IntWalk.i64_in _ (by omega)
    by_cases g : s + n + d ≤ now
    · have g1 : decide (s + n + d ≤ now) = true := by simpa using g
      rw [g1]
      clear hh g
      go_enter Try.func43, Try.ntmps43
      go_wp2_with fail
      go_region_held3 (fun w' => Below w.heap.size w w' ∧ w'.cell? ⟨b, 0, none⟩ = some (.int .i32 st) ∧ w'.cell? ⟨b, 2, none⟩ = some (.int .i64 h) ∧ w'.cell? ⟨b, 3, none⟩ = some (.int .i64 s) ∧ w'.cell? ⟨b, 4, none⟩ = some (.int .i64 n) ∧ w'.cell? ⟨b, 5, none⟩ = some (.int .i64 d))
        (first | assumption | exact ⟨(Below.refl _ w).drew, c0, c2, c3, c4, c5⟩ | (refine stayK HK.out ?_ b3; assumption) | fail)
        (first
          | (go_at_call 37; refine (hI.out _).mono ?_; rintro e w3 ⟨rfl, b3⟩; rw [HH.out])
          | (go_at_call 42; refine (hE.out _).mono ?_; rintro e w3 ⟨rfl, b3⟩)
          | fail)
      all_goals go_wp2
      all_goals go_ret
      all_goals exact ⟨by simp_all, And.left (by assumption)⟩
    · have g1 : decide (s + n + d ≤ now) = false := by simpa using g
      rw [g1]
      clear hh g
      go_enter Try.func43, Try.ntmps43
      go_wp2_with fail
      go_region_held3 (fun w' => Below w.heap.size w w' ∧ w'.cell? ⟨b, 0, none⟩ = some (.int .i32 st) ∧ w'.cell? ⟨b, 2, none⟩ = some (.int .i64 h) ∧ w'.cell? ⟨b, 3, none⟩ = some (.int .i64 s) ∧ w'.cell? ⟨b, 4, none⟩ = some (.int .i64 n) ∧ w'.cell? ⟨b, 5, none⟩ = some (.int .i64 d))
        (first | assumption | exact ⟨(Below.refl _ w).drew, c0, c2, c3, c4, c5⟩ | (refine stayK HK.out ?_ b3; assumption) | fail)
        (first
          | (go_at_call 37; refine (hI.out _).mono ?_; rintro e w3 ⟨rfl, b3⟩; rw [HH.out])
          | (go_at_call 42; refine (hE.out _).mono ?_; rintro e w3 ⟨rfl, b3⟩)
          | fail)
      all_goals go_wp2
      all_goals go_ret
      all_goals exact ⟨by simp_all, And.left (by assumption)⟩
  · rw [Bool.not_eq_true] at hh
    have HH := Lib.hid hh
    rw [hh]
    have hI := Lib.hid (fun W : World => isHeld_any h s n W)
    unfold AVal at hI
    clear hh
    go_enter Try.func43, Try.ntmps43
    go_wp2_with fail
    refine wp_region_any (by kernel_rfl) ?_
    try (change wpAny _ _ _ _ _ _ _ (World.drew _))
    refine wpAny_take (i := 0) (v := ?_) rfl (by kernel_rfl) (by kernel_rfl) (by kernel_rfl) (fun _ _ _ h => h) (Or.inl ⟨by kernel_rfl, ?_⟩) ?_
    rotate_left
    · (intro w; go_simp; try with_reducible rfl)
    try simp only [Act.put, List.getElem_toArray, List.getElem_cons_zero, List.setIfInBounds_toArray, List.set_cons_zero, List.set_cons_succ]
    refine wpAny_take (i := 1) (v := ?_) rfl (by kernel_rfl) (by kernel_rfl) (by kernel_rfl) (fun _ _ _ h => h) (Or.inl ⟨by kernel_rfl, ?_⟩) ?_
    rotate_left
    · (intro w; go_simp; try with_reducible rfl)
    try simp only [Act.put, List.getElem_toArray, List.getElem_cons_succ, List.getElem_cons_zero, List.setIfInBounds_toArray, List.set_cons_zero, List.set_cons_succ]
    refine wpAny_take (i := 2) (v := ?_) rfl (by kernel_rfl) (by kernel_rfl) (by kernel_rfl) (fun _ _ _ h => h) (Or.inl ⟨by kernel_rfl, ?_⟩) ?_
    rotate_left
    · (intro w; go_simp; try with_reducible rfl)
    try simp only [Act.put, List.getElem_toArray, List.getElem_cons_succ, List.getElem_cons_zero, List.setIfInBounds_toArray, List.set_cons_zero, List.set_cons_succ]
    refine wpAny_ready (rs := [3]) (by kernel_rfl) (by simp) ?_
    refine AllReady.cons rfl (fun K hK => ?_) AllReady.nil
    go_simp
    refine hK _ _ ?_
    clear hK K
    try simp only [Act.put, List.getElem_toArray, List.getElem_cons_succ, List.getElem_cons_zero, List.setIfInBounds_toArray, List.set_cons_zero, List.set_cons_succ]
    refine wpAny_ready (rs := [4]) (by kernel_rfl) (by simp) ?_
    refine AllReady.cons rfl (fun K hK => ?_) AllReady.nil
    go_simp
    refine (hI.out _).mono ?_
    rintro e w3 ⟨rfl, b3⟩
    rw [HH.out]
    have b4 : Below w.heap.size w w3 := ⟨b3.os, b3.tape, b3.output, b3.size, b3.block⟩
    clear b3
    obtain ⟨B4, d0, d2, d3, d4, d5⟩ := stayK HK.out ⟨Below.refl _ _, c0, c2, c3, c4, c5⟩ b4
    clear c0 c2 c3 c4 c5 b4
    refine hK _ _ ?_
    clear hK K
    try simp only [Act.put, List.getElem_toArray, List.getElem_cons_succ, List.getElem_cons_zero, List.setIfInBounds_toArray, List.set_cons_zero, List.set_cons_succ]
    refine wpAny_take (i := 5) (v := ?_) rfl (by kernel_rfl) (by kernel_rfl) (by kernel_rfl) (fun _ _ _ h => h) (Or.inl ⟨by kernel_rfl, ?_⟩) ?_
    rotate_left
    · (intro w; go_simp; try with_reducible rfl)
    try simp only [Act.put, List.getElem_toArray, List.getElem_cons_succ, List.getElem_cons_zero, List.setIfInBounds_toArray, List.set_cons_zero, List.set_cons_succ]
    refine wpAny_take (i := 6) (v := ?_) rfl (by kernel_rfl) (by kernel_rfl) (by kernel_rfl) (fun _ _ _ h => h) (Or.inl ⟨by kernel_rfl, ?_⟩) ?_
    rotate_left
    · (intro w; go_simp; try with_reducible rfl)
    try simp only [Act.put, List.getElem_toArray, List.getElem_cons_succ, List.getElem_cons_zero, List.setIfInBounds_toArray, List.set_cons_zero, List.set_cons_succ]
    refine wpAny_take (i := 7) (v := undef) rfl (by kernel_rfl) (by kernel_rfl) (by kernel_rfl) (fun _ _ _ h => h) (Or.inr ⟨by kernel_rfl, rfl⟩) ?_
    try simp only [Act.put, List.getElem_toArray, List.getElem_cons_succ, List.getElem_cons_zero, List.setIfInBounds_toArray, List.set_cons_zero, List.set_cons_succ]
    refine wpAny_take (i := 8) (v := undef) rfl (by kernel_rfl) (by kernel_rfl) (by kernel_rfl) (fun _ _ _ h => h) (Or.inr ⟨by kernel_rfl, rfl⟩) ?_
    try simp only [Act.put, List.getElem_toArray, List.getElem_cons_succ, List.getElem_cons_zero, List.setIfInBounds_toArray, List.set_cons_zero, List.set_cons_succ]
    refine wpAny_take (i := 9) (v := undef) rfl (by kernel_rfl) (by kernel_rfl) (by kernel_rfl) (fun _ _ _ h => h) (Or.inr ⟨by kernel_rfl, rfl⟩) ?_
    try simp only [Act.put, List.getElem_toArray, List.getElem_cons_succ, List.getElem_cons_zero, List.setIfInBounds_toArray, List.set_cons_zero, List.set_cons_succ]
    refine wpAny_take (i := 10) (v := undef) rfl (by kernel_rfl) (by kernel_rfl) (by kernel_rfl) (fun _ _ _ h => h) (Or.inr ⟨by kernel_rfl, rfl⟩) ?_
    try simp only [Act.put, List.getElem_toArray, List.getElem_cons_succ, List.getElem_cons_zero, List.setIfInBounds_toArray, List.set_cons_zero, List.set_cons_succ]
    refine wpAny_take (i := 11) (v := undef) rfl (by kernel_rfl) (by kernel_rfl) (by kernel_rfl) (fun _ _ _ h => h) (Or.inr ⟨by kernel_rfl, rfl⟩) ?_
    try simp only [Act.put, List.getElem_toArray, List.getElem_cons_succ, List.getElem_cons_zero, List.setIfInBounds_toArray, List.set_cons_zero, List.set_cons_succ]
    refine wpAny_take (i := 12) (v := undef) rfl (by kernel_rfl) (by kernel_rfl) (by kernel_rfl) (fun _ _ _ h => h) (Or.inr ⟨by kernel_rfl, rfl⟩) ?_
    try simp only [Act.put, List.getElem_toArray, List.getElem_cons_succ, List.getElem_cons_zero, List.setIfInBounds_toArray, List.set_cons_zero, List.set_cons_succ]
    refine wpAny_take (i := 13) (v := undef) rfl (by kernel_rfl) (by kernel_rfl) (by kernel_rfl) (fun _ _ _ h => h) (Or.inr ⟨by kernel_rfl, rfl⟩) ?_
    try simp only [Act.put, List.getElem_toArray, List.getElem_cons_succ, List.getElem_cons_zero, List.setIfInBounds_toArray, List.set_cons_zero, List.set_cons_succ]
    refine wpAny_take (i := 14) (v := undef) rfl (by kernel_rfl) (by kernel_rfl) (by kernel_rfl) (fun _ _ _ h => h) (Or.inr ⟨by kernel_rfl, rfl⟩) ?_
    try simp only [Act.put, List.getElem_toArray, List.getElem_cons_succ, List.getElem_cons_zero, List.setIfInBounds_toArray, List.set_cons_zero, List.set_cons_succ]
    refine wpAny_take (i := 15) (v := undef) rfl (by kernel_rfl) (by kernel_rfl) (by kernel_rfl) (fun _ _ _ h => h) (Or.inr ⟨by kernel_rfl, rfl⟩) ?_
    try simp only [Act.put, List.getElem_toArray, List.getElem_cons_succ, List.getElem_cons_zero, List.setIfInBounds_toArray, List.set_cons_zero, List.set_cons_succ]
    refine wpAny_take (i := 16) (v := undef) rfl (by kernel_rfl) (by kernel_rfl) (by kernel_rfl) (fun _ _ _ h => h) (Or.inr ⟨by kernel_rfl, rfl⟩) ?_
    try simp only [Act.put, List.getElem_toArray, List.getElem_cons_succ, List.getElem_cons_zero, List.setIfInBounds_toArray, List.set_cons_zero, List.set_cons_succ]
    refine wpAny_take (i := 17) (v := undef) rfl (by kernel_rfl) (by kernel_rfl) (by kernel_rfl) (fun _ _ _ h => h) (Or.inr ⟨by kernel_rfl, rfl⟩) ?_
    try simp only [Act.put, List.getElem_toArray, List.getElem_cons_succ, List.getElem_cons_zero, List.setIfInBounds_toArray, List.set_cons_zero, List.set_cons_succ]
    refine wpAny_take (i := 18) (v := undef) rfl (by kernel_rfl) (by kernel_rfl) (by kernel_rfl) (fun _ _ _ h => h) (Or.inr ⟨by kernel_rfl, rfl⟩) ?_
    try simp only [Act.put, List.getElem_toArray, List.getElem_cons_succ, List.getElem_cons_zero, List.setIfInBounds_toArray, List.set_cons_zero, List.set_cons_succ]
    refine wpAny_take (i := 19) (v := ?_) rfl (by kernel_rfl) (by kernel_rfl) (by kernel_rfl) (fun _ _ _ h => h) (Or.inl ⟨by kernel_rfl, ?_⟩) ?_
    rotate_left
    · (intro w; go_simp; try with_reducible rfl)
    try simp only [Act.put, List.getElem_toArray, List.getElem_cons_succ, List.getElem_cons_zero, List.setIfInBounds_toArray, List.set_cons_zero, List.set_cons_succ]
    refine wpAny_take (i := 20) (v := ?_) rfl (by kernel_rfl) (by kernel_rfl) (by kernel_rfl) (fun _ _ _ h => h) (Or.inl ⟨by kernel_rfl, ?_⟩) ?_
    rotate_left
    · (intro w; go_simp; try with_reducible rfl)
    try simp only [Act.put, List.getElem_toArray, List.getElem_cons_succ, List.getElem_cons_zero, List.setIfInBounds_toArray, List.set_cons_zero, List.set_cons_succ]
    refine wpAny_done (by kernel_rfl) ?_ _
    go_wp2
    go_ret
    exact ⟨by simp_all, B4⟩

/-- Two leases in boxes of the call's own. -/
def two3w (w : World) (h s n h' s' n' : Int) : World := (w.alloc (.cells #[.int .i64 h, .int .i64 s, .int .i64 n] 24)).alloc (.cells #[.int .i64 h', .int .i64 s', .int .i64 n'] 24)
theorem two3L (w : World) (h s n h' s' n' : Int) : AF3 (two3w w h s n h' s' n') w.heap.size h s n ∧ AF3 (two3w w h s n h' s' n') (w.heap.size + 1) h' s' n' ∧ Below w.heap.size w (two3w w h s n h' s' n') := by
  refine ⟨(AF3.new w h s n _).alloc _, ?_, ((Below.refl _ w).alloc (Nat.le_refl _) _).alloc (by simp) _⟩
  have := AF3.new (w.alloc (.cells #[.int .i64 h, .int .i64 s, .int .i64 n] 24)) h' s' n' 24
  simpa [two3w] using this
def Two3 (w w' : World) (h s n h' s' n' : Int) : Prop := Below w.heap.size w w' ∧ w'.cell? ⟨w.heap.size, 0, none⟩ = some (.int .i64 h) ∧ w'.cell? ⟨w.heap.size, 1, none⟩ = some (.int .i64 s) ∧ w'.cell? ⟨w.heap.size, 2, none⟩ = some (.int .i64 n) ∧ w'.cell? ⟨w.heap.size + 1, 0, none⟩ = some (.int .i64 h') ∧ w'.cell? ⟨w.heap.size + 1, 1, none⟩ = some (.int .i64 s') ∧ w'.cell? ⟨w.heap.size + 1, 2, none⟩ = some (.int .i64 n')
theorem two3C {w w1 : World} {h s n h' s' n' : Int} (H : AF3 w1 w.heap.size h s n ∧ AF3 w1 (w.heap.size + 1) h' s' n' ∧ Below w.heap.size w w1) : Two3 w w1.drew h s n h' s' n' :=
  ⟨H.2.2.drew, (cells3 H.1.ab).1, (cells3 H.1.ab).2.1, (cells3 H.1.ab).2.2, (cells3 H.2.1.ab).1, (cells3 H.2.1.ab).2.1, (cells3 H.2.1.ab).2.2⟩
theorem two3K {w wa w3 : World} {h s n h' s' n' : Int} (H : Two3 w wa h s n h' s' n') (b3 : Below wa.heap.size wa w3) : Two3 w w3 h s n h' s' n' := by
  obtain ⟨B, c0, c1, c2, d0, d1, d2⟩ := H
  have k : ∀ {p : Addr} {v : Value}, wa.cell? p = some v → w3.cell? p = some v := fun h => (b3.cell (World.block_lt_of_cell? wa _ h)).trans h
  exact ⟨below_step B b3, k c0, k c1, k c2, k d0, k d1, k d2⟩
def extBy (h s n h' s' n' : Int) : Bool := decide (h' = h) && decide (s ≤ s') && decide (s + n ≤ s' + n')
set_option maxRecDepth 100000 in
set_option maxHeartbeats 3200000 in
theorem extendedBy_any (h s n h' s' n' : Int) (w : World) (s0 : 0 ≤ s) (s1 : s ≤ 999) (l0 : 0 ≤ n) (l1 : n ≤ 999) (s0' : 0 ≤ s') (s1' : s' ≤ 999) (l0' : 0 ≤ n') (l1' : n' ≤ 999) :
    Calls Try.prog 45 #[AVal h s n, AVal h' s' n'] w (SaidB w (extBy h s n h' s' n')) := by
  have H := Lib.hid (two3L w h s n h' s' n')
  unfold two3w at H
  obtain ⟨c0, c1, c2⟩ := cells3 H.out.1.ab
  obtain ⟨d0, d1, d2⟩ := cells3 H.out.2.1.ab
  by_cases g1 : h' = h
  · subst g1
    by_cases g2 : s ≤ s'
    · have e2 : decide (s ≤ s') = true := by simpa using g2
      have hE := Lib.hid (fun W : World => lsEnd_any h' s n W s0 s1 l0 l1)
      have hE' := Lib.hid (fun W : World => lsEnd_any h' s' n' W s0' s1' l0' l1')
      unfold AVal at hE hE'
      rw [show extBy h' s n h' s' n' = decide (s + n ≤ s' + n') by simp only [extBy, e2, decide_true, Bool.true_and]]
      clear g2
      unfold AVal
      go_enter Try.func45, Try.ntmps45
      go_wp2_with fail
      go_region_held3 (fun w' => Below w.heap.size w w' ∧ w'.cell? ⟨w.heap.size, 0, none⟩ = some (.int .i64 h') ∧ w'.cell? ⟨w.heap.size, 1, none⟩ = some (.int .i64 s) ∧ w'.cell? ⟨w.heap.size, 2, none⟩ = some (.int .i64 n) ∧ w'.cell? ⟨w.heap.size + 1, 0, none⟩ = some (.int .i64 h') ∧ w'.cell? ⟨w.heap.size + 1, 1, none⟩ = some (.int .i64 s') ∧ w'.cell? ⟨w.heap.size + 1, 2, none⟩ = some (.int .i64 n'))
        (first | assumption | exact two3C H.out | (refine two3K ?_ b3; assumption) | fail)
        (first
          | (go_at_call 42; (with_reducible refine (hE.out _).mono ?_); rintro e w3 ⟨rfl, b3⟩)
          | (go_at_call 42; (with_reducible refine (hE'.out _).mono ?_); rintro e w3 ⟨rfl, b3⟩)
          | fail)
      all_goals go_wp2
      all_goals go_ret
      all_goals exact ⟨by simp_all, And.left (by assumption)⟩
    · have e2 : decide (s ≤ s') = false := by simpa using g2
      rw [show extBy h' s n h' s' n' = false by simp only [extBy, e2, Bool.and_false, Bool.false_and]]
      clear g2
      unfold AVal
      go_enter Try.func45, Try.ntmps45
      go_wp2_with fail
      go_quiet (fail)
      go_wp2
      go_ret
      exact ⟨by simp_all, below_drewN H.out.2.2 _⟩
  · have e1 : (h' == h) = false := by simpa using g1
    rw [show extBy h s n h' s' n' = false by simp only [extBy, decide_eq_false g1, Bool.false_and]]
    clear g1
    unfold AVal
    go_enter Try.func45, Try.ntmps45
    go_wp2_with fail
    go_quiet (fail)
    go_wp2
    go_ret
    exact ⟨by simp_all, below_drewN H.out.2.2 _⟩
end Go.Proofs.Ytfagjbbljdgefaa
