/- The walk of the exact law on RunChosen. -/
import Derived.Test.YtkbchbecfohhaaaGm
namespace Go.Proofs.Ytkbchbecfohhaaa
open Go.RowKit

theorem markRun_k (lo hi : Nat) (A B C D : Option Addr) (c d e f : Nat) (r : Rn) (w : World) (h : ORun w lo hi A B C D c d e f r) (hl : rsz r ≤ 1048576) :
    Calls Try.prog 18 #[RVal A B C D c d e f r, .int .i64 1] w fun x w' =>
      ∃ n : Nat, x = .returned (.int .i64 (n : Int)) ∧ n = 1 + wtR r ∧ ORun w' lo hi A B C D c d e f (markR 1 r) ∧ Keep lo hi w w' := by
  refine (markRun_own lo hi A B C D c d e f r 1 1 rfl w h hl (Nat.le_refl _)).mono ?_
  rintro x w' ⟨rfl, h1, h2⟩
  refine ⟨1 + wtR r, ret_int ?_, rfl, h1, h2⟩
  unfold wtR
  omega
theorem Own.keepK {w w' : World} {lo hi lo2 hi2 c : Nat} {A : Option Addr} {l : List Int} (h : Own w lo hi A c l) (k : Keep lo2 hi2 w w') (hd : hi ≤ lo2 ∨ hi2 ≤ lo) : Own w' lo hi A c l :=
  h.at_ (Nat.le_trans h.2.1 k.size) fun g h1 h2 _ => k.block g (by have := h.2.1; omega) (by omega)
theorem New.own {w w' : World} {l : List Int} {e : Ending} (h : New w l e w') : ∃ A c, e = .returned (.slice A l.length c) ∧ Own w' w.heap.size w'.heap.size A c l ∧ Below w.heap.size w w' := by
  obtain ⟨A, c, he, ho, hb⟩ := h
  exact ⟨A, c, he, Own.of_new ho, hb⟩

theorem heldI_i (A : Option Addr) (c : Nat) (k : Nat) (K : Int) (n : Nat) (hK : K = (k : Int)) (w : World) (ha : IL w A (marks k n)) (hl : n ≤ 1048576) (hk : k ≤ 1073741824) :
    Calls Try.prog 28 #[.slice A n c, .int .i64 K] w fun e w' => e = .returned (.int .i64 (K + n)) ∧ w = w' := by
  subst hK
  refine (heldIntS_any A c k n w ha hl hk).mono fun e w' ⟨he, h⟩ => ⟨?_, h⟩
  rw [he, Int.natCast_add]
set_option maxRecDepth 100000 in
set_option maxHeartbeats 12800000 in
theorem walkCho (A B C D : Option Addr) (c d e f : Nat) (r : Rn) (w : World) (h : Reads w A B C D r) (hm : RLen r maxLen) :
    Calls Try.prog 5 #[RVal A B C D c d e f r] w fun e w' => e = .returned (.bool true) ∧ Below w.heap.size w w' := by
  have ba : Below w.heap.size w (w.alloc (.cells #[.slice A r.P.length c, .slice B r.Q.length d, .slice C r.ac.length e, .slice D r.pr.length f] 42)) := (Below.refl _ w).alloc (Nat.le_refl _) _
  have rb := RB.new w (.slice A r.P.length c) (.slice B r.Q.length d) (.slice C r.ac.length e) (.slice D r.pr.length f) 42
  have sa : w.heap.size + 1 ≤ (w.alloc (.cells #[.slice A r.P.length c, .slice B r.Q.length d, .slice C r.ac.length e, .slice D r.pr.length f] 42)).heap.size := by simp
  obtain ⟨L, hL⟩ : ∃ L, L = chosenR r := ⟨_, rfl⟩
  have hl9 : L.length ≤ 99 := by rw [hL]; exact chosenR_len r
  have H := Lib.hid (And.intro h (And.intro hm hL))
  clear h hm hL
  go_enter Try.func5, Try.ntmps5
  go_wp2_with fail
  refine (szRun_any _ _ _ _ _ _ _ _ _ _ (H.out.1.below ba) H.out.2.1).mono ?_
  rintro e w1 ⟨x, rfl, hx, b1⟩
  have B1 := below_step ba b1
  have r1 := rb.below b1
  have s1 := Nat.le_trans sa b1.size
  clear ba b1 rb sa
  by_cases h0 : x < 0
  · clear hx
    go_wp2
    go_ret
    exact ⟨rfl, B1⟩
  · have hL := Lib.hid (And.intro (rsz_len (hx (by omega))) (hx (by omega)))
    have q0 := r1.c0
    have q1 := r1.c1
    have q2 := r1.c2
    have q3 := r1.c3
    clear hx
    go_wp2_with fail
    refine (toRun_any _ _ _ _ _ _ _ _ _ _ (H.out.1.below B1) hL.out.1).mono ?_
    rintro e w2 ⟨A2, B2, C2, D2, c2, d2, x2, f2, rfl, o2, b2⟩
    have BB2 := below_step B1 b2
    have r2 := r1.below b2
    have s2 := Nat.le_trans s1 b2.size
    clear q0 q1 q2 q3 r1 B1 b2 s1
    go_wp2_with fail
    refine (specChosen_any _ _ _ _ _ _ _ _ _ _ o2.reads hL.out.1).mono ?_
    rintro e w3 hn
    obtain ⟨AW, cW, rfl, oW, b3⟩ := hn.own
    rw [← H.out.2.2] at oW ⊢
    have BB3 := below_step BB2 b3
    have r3 := r2.below b3
    have s3 := Nat.le_trans s2 b3.size
    clear o2 r2 b3 BB2 hn
    have q0 := r3.c0
    have q1 := r3.c1
    have q2 := r3.c2
    have q3 := r3.c3
    go_wp2_with fail
    refine (toRun_any _ _ _ _ _ _ _ _ _ _ (H.out.1.below BB3) hL.out.1).mono ?_
    rintro e w4 ⟨A4, B4, C4, D4, c4, d4, x4, f4, rfl, o4, b4⟩
    have ba4 := (Below.refl _ w4).alloc (Nat.le_refl w4.heap.size) (.cells #[.slice A4 r.P.length c4, .slice B4 r.Q.length d4, .slice C4 r.ac.length x4, .slice D4 r.pr.length f4] 30)
    have BB4 := below_step (below_step BB3 b4) ba4
    have r4 := (r3.below b4).below ba4
    have k4 := RB.new w4 (.slice A4 r.P.length c4) (.slice B4 r.Q.length d4) (.slice C4 r.ac.length x4) (.slice D4 r.pr.length f4) 30
    have o5 := o4.below ba4
    have oW4 := (oW.below b4).below ba4
    have s4 : w4.heap.size + 1 ≤ (w4.alloc (.cells #[.slice A4 r.P.length c4, .slice B4 r.Q.length d4, .slice C4 r.ac.length x4, .slice D4 r.pr.length f4] 30)).heap.size := by simp
    have s34 := b4.size
    clear q0 q1 q2 q3 r3 BB3 b4 o4 ba4 oW
    go_wp2_with fail
    refine (implChosen_any _ _ _ _ _ _ _ _ _ _ o5.reads hL.out.1).mono ?_
    rintro e w5 hn
    obtain ⟨AG, cG, rfl, oG, b5⟩ := hn.own
    rw [← H.out.2.2] at oG ⊢
    have BB5 := below_step BB4 b5
    have r5 := r4.below b5
    have k5 := k4.below b5
    have o6 := o5.below b5
    have oW5 := oW4.below b5
    have s5 := Nat.le_trans s4 b5.size
    clear r4 k4 o5 BB4 b5 oW4 hn
    go_wp2_with fail
    refine (eqIntS_yes _ _ _ _ _ _ oG.il oW5.il (by omega)).mono ?_
    rintro e w6 ⟨rfl, b6⟩
    have BB6 := below_step BB5 b6
    have r6 := r5.below b6
    have k6 := k5.below b6
    have o7 := o6.below b6
    have oW6 := oW5.below b6
    have oG6 := oG.below b6
    have s6 := Nat.le_trans s5 b6.size
    clear r5 k5 o6 BB5 b6 oW5 oG s5
    have q0 := r6.c0
    have q1 := r6.c1
    have q2 := r6.c2
    have q3 := r6.c3
    have p0 := k6.c0
    have p1 := k6.c1
    have p2 := k6.c2
    have p3 := k6.c3
    have C1 := fun n => toRun_any A B C D c d e f r (w6.drewN n) (H.out.1.below (below_drewN BB6 n)) hL.out.1
    go_wp2
    go_region_law (first
      | (go_simp; go_at_call 22; refine (C1 _).mono ?_; rintro e w7 ⟨A6, B6, C6, D6, c6, d6, x6, f6, rfl, o8, b7⟩; have b8 : Below w6.heap.size w6 w7 := ⟨b7.os, b7.tape, b7.output, b7.size, b7.block⟩; have k7 := k6.below b8; have u0 := k7.c0; have u1 := k7.c1; have u2 := k7.c2; have u3 := k7.c3)
      | (go_simp; go_at_call 15; refine (eqRun_yes _ _ _ _ _ _ _ _ _ _ _ _ _ _ _ _ _ _ (o7.reads.below b8) o8.reads hL.out.1).mono ?_; rintro e w8 ⟨rfl, b9⟩)
      | fail)
    all_goals (
      have BB8 := below_step (below_step BB6 b8) b9
      have r8 := (r6.below b8).below b9
      have k8 := k7.below b9
      have o9 := (o7.below b8).below b9
      have oW8 := (oW6.below b8).below b9
      have oG8 := (oG6.below b8).below b9
      have s8 := Nat.le_trans s6 (Nat.le_trans b8.size b9.size)
      clear q0 q1 q2 q3 p0 p1 p2 p3 u0 u1 u2 u3 r6 k6 k7 o7 o8 b7 b8 b9 BB6 C1 oW6 oG6 s6
      have p0 := k8.c0
      have p1 := k8.c1
      have p2 := k8.c2
      have p3 := k8.c3
      go_wp2_with fail
      refine (markRun_k _ _ _ _ _ _ _ _ _ _ r _ o9 hL.out.2).mono ?_
      rintro e w9 ⟨n, rfl, hn, _, k9⟩
      have oW9 := oW8.keepK k9 (by omega)
      have oG9 := oG8.keepK k9 (by omega)
      have r9 := r8.kept (k9.block _ r8.lt (by omega))
      have BB9 := below_keep BB8 k9 (by omega)
      have n0 : decide ((n : Int) < 0) = false := by simp
      clear p0 p1 p2 p3 r8 k8 o9 oW8 oG8 BB8 k9 hn
      go_wp2_with fail
      refine (eqIntS_yes _ _ _ _ _ _ oG9.il oW9.il (by omega)).mono ?_
      rintro e w10 ⟨rfl, b10⟩
      have oW10 := oW9.below b10
      have oG10 := oG9.below b10
      have r10 := r9.below b10
      have BB10 := below_step BB9 b10
      clear oW9 oG9 r9 BB9 b10 n0
      go_wp2_with fail
      refine (markI_i _ _ _ _ 1 _ rfl _ oG10.1 (by omega) (by omega)).mono ?_
      rintro e w11 ⟨rfl, hm, hg⟩
      have oG11 := oG10.same (marks_len _ _) hg hm
      have oW11 := oW10.other oG10 hg (by omega)
      have r11 := r10.kept (hg.block _ r10.lt (fun e => by have := oG10.2.2 _ e.symm; omega))
      have BB11 := oG10.keeps BB10 (by omega) hg
      clear oW10 oG10 r10 BB10 hm hg
      go_wp2_with fail
      refine (heldI_i _ _ 1 _ L.length rfl _ oG11.il (by omega) (by omega)).mono ?_
      rintro e w' ⟨rfl, rfl⟩
      have m0 : decide ((1 : Int) + (L.length : Int) < 0) = false := by simp; omega
      have q0 := r11.c0
      have q1 := r11.c1
      have q2 := r11.c2
      have q3 := r11.c3
      go_wp2_with fail
      refine (toRun_any _ _ _ _ _ _ _ _ _ _ (H.out.1.below BB11) hL.out.1).mono ?_
      rintro e w12 ⟨A6, B6, C6, D6, c6, d6, x6, f6, rfl, o12, b12⟩
      have BB12 := below_step BB11 b12
      have oW12 := oW11.below b12
      have oG12 := oG11.below b12
      clear q0 q1 q2 q3 r11 BB11 b12 oW11 oG11
      go_wp2_with fail
      refine (implChosen_any _ _ _ _ _ _ _ _ _ _ o12.reads hL.out.1).mono ?_
      rintro e w13 hn
      obtain ⟨AH, cH, rfl, oH, b13⟩ := hn.own
      rw [← H.out.2.2] at oH ⊢
      have BB13 := below_step BB12 b13
      have oW13 := oW12.below b13
      have oG13 := oG12.below b13
      clear BB12 b13 oW12 oG12 o12 hn
      go_wp2_with fail
      refine (eqIntS_yes _ _ _ _ _ _ oH.il oW13.il (by omega)).mono ?_
      rintro e w14 ⟨rfl, b14⟩
      have BB14 := below_step BB13 b14
      have oG14 := oG13.below b14
      clear BB13 b14 oW13 oG13 oH
      go_wp2_with fail
      refine (heldI_i _ _ 1 _ L.length rfl _ oG14.il (by omega) (by omega)).mono ?_
      rintro e w' ⟨rfl, rfl⟩
      have HB := Lib.hid BB14
      clear oG14 BB14
      go_wp2
      go_ret
      exact ⟨rfl, HB.out⟩)
end Go.Proofs.Ytkbchbecfohhaaa
