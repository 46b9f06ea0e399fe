/- The walk of the exact law on RunValid. -/
import Derived.Test.YtkbchbecfohhaaaGl
import Derived.Test.YtkbchbecfohhaaaGk
namespace Go.Proofs.Ytkbchbecfohhaaa
open Go.RowKit

set_option maxRecDepth 100000 in
set_option maxHeartbeats 1600000 in
theorem implRunValid_any (A B C D : Option Addr) (c d e f : Nat) (r : Rn) (w : World) (h : Reads w A B C D r) (hl : RLen r 1048576) :
    Calls Try.prog 23 #[RVal A B C D c d e f r] w fun e w' => e = .returned (.bool (runOk r)) ∧ Below w.heap.size w w' := by
  have ba : Below w.heap.size w (w.alloc (.cells #[.slice A r.P.length c, .slice B r.Q.length d, .slice C r.ac.length e, .slice D r.pr.length f] 30)) := (Below.refl _ w).alloc (Nat.le_refl _) _
  go_enter Try.func23, Try.ntmps23
  go_wp2_with fail
  refine (insOf_any _ _ _ _ _ _ _ _ _ _ (h.below ba) hl).mono ?_
  rintro e w1 ⟨b1, ⟨ho, rfl⟩ | ⟨ho, g, rfl, _, _⟩⟩
  · have E := Lib.hid (And.intro ho (below_step ba b1))
    clear ho ba b1
    go_wp2
    go_ret
    exact ⟨ret_bool E.out.1.symm, E.out.2⟩
  · have E := Lib.hid (And.intro ho (below_step ba b1))
    clear ho ba b1
    go_wp2
    go_ret
    exact ⟨ret_bool E.out.1.symm, E.out.2⟩

set_option maxRecDepth 100000 in
set_option maxHeartbeats 6400000 in
theorem walkRv (A B C D : Option Addr) (c d e f : Nat) (r : Rn) (w : World) (h : Reads w A B C D r) (hm : RLen r maxLen) :
    Calls Try.prog 4 #[RVal A B C D c d e f r] w fun e w' => e = .returned (.bool true) ∧ Below w.heap.size w w' := by
  have ba : Below w.heap.size w (w.alloc (.cells #[.slice A r.P.length c, .slice B r.Q.length d, .slice C r.ac.length e, .slice D r.pr.length f] 42)) := (Below.refl _ w).alloc (Nat.le_refl _) _
  have rb := RB.new w (.slice A r.P.length c) (.slice B r.Q.length d) (.slice C r.ac.length e) (.slice D r.pr.length f) 42
  obtain ⟨t, ht⟩ : ∃ t, t = runOk r := ⟨_, rfl⟩
  have H := Lib.hid (And.intro h (And.intro hm ht))
  clear h hm ht
  go_enter Try.func4, Try.ntmps4
  go_wp2_with fail
  refine (szRun_any _ _ _ _ _ _ _ _ _ _ (H.out.1.below ba) H.out.2.1).mono ?_
  rintro e w1 ⟨x, rfl, hx, b1⟩
  have B1 := below_step ba b1
  have r1 := rb.below b1
  clear ba b1 rb
  by_cases h0 : x < 0
  · clear hx
    go_wp2
    go_ret
    exact ⟨rfl, B1⟩
  · have hL := Lib.hid (rsz_len (hx (by omega)))
    have q0 := r1.c0
    have q1 := r1.c1
    have q2 := r1.c2
    have q3 := r1.c3
    clear hx
    go_wp2_with fail
    refine (toRun_any _ _ _ _ _ _ _ _ _ _ (H.out.1.below B1) hL.out).mono ?_
    rintro e w2 ⟨A2, B2, C2, D2, c2, d2, x2, f2, rfl, o2, b2⟩
    have BB2 := below_step B1 b2
    have r2 := r1.below b2
    clear q0 q1 q2 q3 r1 B1 b2
    go_wp2_with fail
    refine (specRunValid_any _ _ _ _ _ _ _ _ _ _ o2.reads hL.out).mono ?_
    rintro e w3 ⟨rfl, b3⟩
    rw [← H.out.2.2]
    have BB3 := below_step BB2 b3
    have r3 := r2.below b3
    clear o2 r2 b3 BB2
    have q0 := r3.c0
    have q1 := r3.c1
    have q2 := r3.c2
    have q3 := r3.c3
    go_wp2_with fail
    refine (toRun_any _ _ _ _ _ _ _ _ _ _ (H.out.1.below BB3) hL.out).mono ?_
    rintro e w4 ⟨A4, B4, C4, D4, c4, d4, x4, f4, rfl, o4, b4⟩
    have ba4 := (Below.refl _ w4).alloc (Nat.le_refl w4.heap.size) (.cells #[.slice A4 r.P.length c4, .slice B4 r.Q.length d4, .slice C4 r.ac.length x4, .slice D4 r.pr.length f4] 30)
    have BB4 := below_step (below_step BB3 b4) ba4
    have r4 := (r3.below b4).below ba4
    have s4 := RB.new w4 (.slice A4 r.P.length c4) (.slice B4 r.Q.length d4) (.slice C4 r.ac.length x4) (.slice D4 r.pr.length f4) 30
    have o5 := o4.below ba4
    clear q0 q1 q2 q3 r3 BB3 b4 o4 ba4
    go_wp2_with fail
    refine (implRunValid_any _ _ _ _ _ _ _ _ _ _ o5.reads hL.out).mono ?_
    rintro e w5 ⟨rfl, b5⟩
    rw [← H.out.2.2]
    have BB5 := below_step BB4 b5
    have r5 := r4.below b5
    have s5 := s4.below b5
    have o6 := o5.below b5
    clear r4 s4 o5 BB4 b5
    have q0 := r5.c0
    have q1 := r5.c1
    have q2 := r5.c2
    have q3 := r5.c3
    have p0 := s5.c0
    have p1 := s5.c1
    have p2 := s5.c2
    have p3 := s5.c3
    have nn : (t != t) = false := by cases t <;> rfl
    have C1 := fun n => toRun_any A B C D c d e f r (w5.drewN n) (H.out.1.below (below_drewN BB5 n)) hL.out
    go_wp2
    go_region_law (first
      | (go_simp; go_at_call 22; refine (C1 _).mono ?_; rintro e w6 ⟨A6, B6, C6, D6, c6, d6, x6, f6, rfl, o7, b6⟩; have b7 : Below w5.heap.size w5 w6 := ⟨b6.os, b6.tape, b6.output, b6.size, b6.block⟩; have s6 := s5.below b7; have u0 := s6.c0; have u1 := s6.c1; have u2 := s6.c2; have u3 := s6.c3)
      | (go_simp; go_at_call 15; refine (eqRun_yes _ _ _ _ _ _ _ _ _ _ _ _ _ _ _ _ _ _ (o6.reads.below b7) o7.reads hL.out).mono ?_; rintro e w8 ⟨rfl, b8⟩)
      | fail)
    all_goals (
      have HB := Lib.hid (below_step (below_step BB5 b7) b8)
      clear q0 q1 q2 q3 p0 p1 p2 p3 u0 u1 u2 u3 r5 s5 s6 o6 o7 b6 b7 b8 BB5 C1
      go_wp2
      go_ret
      exact ⟨rfl, HB.out⟩)
end Go.Proofs.Ytkbchbecfohhaaa
