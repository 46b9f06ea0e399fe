/- The walk of chapter 31's law on the open slots. -/
import Derived.Test.YtimijinldhpmfaaWLgC
import Derived.Test.YtimijinldhpmfaaDraw2
import Derived.Test.YtimijinldhpmfaaQf
namespace Go.Proofs.Ytimijinldhpmfaa
open Go.RowKit

theorem own_some {w : World} {base T : Nat} {A : Option Addr} {c n : Nat} {xs : List Value} (h : w.ownsRow base T 1 (.slice A n c) n xs) (hn : n ≠ 0) : ∃ b, A = some ⟨b, 0, none⟩ := by
  rcases h.2 with ⟨hv, h0⟩ | ⟨g, cap, cur, hv, _⟩
  · exact absurd h0 hn
  · injection hv with hA
    exact ⟨g, hA⟩
theorem own_len {w : World} {base T : Nat} {A : Option Addr} {c n : Nat} {xs : List Value} (h : w.ownsRow base T 1 (.slice A n c) n xs) : n ≤ c := by
  rcases h.2 with ⟨hv, h0⟩ | ⟨g, cap, cur, hv, _, _, hc, _⟩
  · injection hv with hA hn hc
    omega
  · injection hv with hA hn hc2
    omega
theorem lopen_two {l : List En} {n : Int} (h : okL l n = true) : lopen l n = [conf l l.length, conf l ((l.length : Int) + 1)] := by rw [lopen, if_pos h]
theorem lopen_none {l : List En} {n : Int} (h : okL l n = false) : lopen l n = [] := by rw [lopen, if_neg (by simp [h])]
theorem lopen_short (l : List En) (n : Int) : (lopen l n).length ≤ 2 := by unfold lopen; split <;> simp
theorem lconf_in {l : List En} {n s : Int} (h : okL l n = true) (h0 : 0 ≤ s) (h1 : s ≤ (l.length : Int) + 1) : lconf l n s = conf l s := by rw [lconf, if_pos ⟨h, h0, h1⟩]
theorem il_at {w : World} {b : Nat} {l : List Int} (h : IL w (some ⟨b, 0, none⟩) l) {k : Nat} {x : Int} (hx : l[k]? = some x) : w.cell? ⟨b, k, none⟩ = some (.int .i64 x) ∧ b < w.heap.size := by
  rcases h with rfl | ⟨b', off, e, hlt, hc⟩
  · simp at hx
  · injection e with e
    injection e with e1 e2
    subst e1; subst e2
    refine ⟨?_, hlt⟩
    have := hc k x hx
    rwa [Nat.zero_add] at this
theorem il_heap {w w' : World} {A : Option Addr} {l : List Int} (h : IL w A l) (e : w'.heap = w.heap) : IL w' A l := by
  rcases h with rfl | ⟨b, off, rfl, hlt, hc⟩
  · exact .inl rfl
  · exact .inr ⟨b, off, rfl, by rw [e]; exact hlt, fun j x hx => (World.cell?_of_block (by rw [e])).trans (hc j x hx)⟩
theorem il_take {w : World} {A : Option Addr} {l : List Int} (h : IL w A l) (n : Nat) : IL w A (l.take n) := by
  rcases h with rfl | ⟨b, off, rfl, hlt, hc⟩
  · left; simp
  · refine .inr ⟨b, off, rfl, hlt, fun j x hx => hc j x ?_⟩
    rw [List.getElem?_take] at hx
    split at hx
    · exact hx
    · cases hx
theorem il_drop {w : World} {b : Nat} {l : List Int} (h : IL w (some ⟨b, 0, none⟩) l) (n : Nat) : IL w (some ⟨b, n, none⟩) (l.drop n) := by
  rcases h with rfl | ⟨b', off, e, hlt, hc⟩
  · left; simp
  · injection e with e
    injection e with e1 e2
    subst e1; subst e2
    refine .inr ⟨b, n, rfl, hlt, fun j x hx => ?_⟩
    rw [List.getElem?_drop] at hx
    have := hc _ x hx
    rwa [Nat.zero_add] at this
set_option maxRecDepth 100000 in
set_option maxHeartbeats 3200000 in
theorem walkLogOpen (A : Option Addr) (c : Nat) (l : List Int) (w : World) (ha : BL w A l) (hc : l.length ≤ c) (hm : l.length ≤ maxLen) (hmc : c ≤ maxLen) :
    Calls Try.prog 6 #[.slice A l.length c] w fun e w' => e = .returned (.bool true) ∧ Below w.heap.size w w' := by
  have hm1 := hm
  unfold maxLen at hm1
  by_cases hl : l.length ≤ 1048576
  · have ez : decide (1048576 < (l.length : Int)) = false := by simp; omega
    go_enter Try.func6, Try.ntmps6
    go_wp2_with fail
    refine (dDrawLogOpen_any _ _ _ _ ha hc hm hmc).mono ?_
    rintro e w1 ⟨L, n, B, d, rfl, n1, n4, hL, D⟩
    obtain ⟨hE, hd, hdm, ⟨b, rfl⟩, b1⟩ := D
    clear ha hc hm hmc
    have LS := lopen_short L n
    obtain ⟨m, hm⟩ : ∃ m, m = lopen L n := ⟨_, rfl⟩
    rw [← hm] at LS
    have HM := Lib.hid hm
    clear hm
    go_wp2_with fail
    refine (iLogOpen_any _ _ _ _ _ hE (by omega)).mono ?_
    rw [← HM.out]
    rintro e w2 ⟨A2, c2, rfl, o2, b2⟩
    have hI := (IL.of_own o2).1
    have hA2 := own_some o2
    have hc2 := own_len o2
    have hE := hE.below b2
    have b2 := below_step b1 b2
    clear b1 o2
    go_wp2_with fail
    refine (sLogOpen_any _ _ _ _ _ hE (by omega)).mono ?_
    rw [← HM.out]
    rintro e w3 ⟨A3, c3, rfl, o3, b3⟩
    have hI3 := (IL.of_own o3).1
    have hI := hI.below b3
    have hE := hE.below b3
    have b3 := below_step b2 b3
    clear b2 o3
    go_wp2_with fail
    refine (sameInts_yes _ _ _ _ _ _ hI hI3 (by omega)).mono ?_
    rintro e w4 ⟨rfl, b4⟩
    have hI := hI.below b4
    have hE := hE.below b4
    have b4 := below_step b3 b4
    clear b3 hI3
    go_wp2_with fail
    refine (sLogValid_any _ _ _ _ _ hE (by omega)).mono ?_
    rintro e w5 ⟨rfl, b5⟩
    have hI := hI.below b5
    have hE := hE.below b5
    have b5 := below_step b4 b5
    clear b4
    by_cases hok : okL L n = true
    · rw [hok]
      have HO := Lib.hid hok
      have HM2 := HM.out.trans (lopen_two hok)
      clear hok HM
      subst HM2
      obtain ⟨g, rfl⟩ := hA2 (by simp)
      clear hA2 LS
      have C0 := Lib.hid (lconf_in (s := L.length) HO.out (by omega) (by omega))
      have C1 := Lib.hid (lconf_in (s := (L.length : Int) + 1) HO.out (by omega) (by omega))
      obtain ⟨p0, hp0⟩ : ∃ p, p = conf L L.length := ⟨_, rfl⟩
      obtain ⟨p1, hp1⟩ : ∃ p, p = conf L ((L.length : Int) + 1) := ⟨_, rfl⟩
      rw [← hp0] at C0 hI
      rw [← hp1] at C1 hI
      rw [← hp0, ← hp1]
      clear hp0 hp1 HO
      simp only [List.length_cons, List.length_nil]
      have HI := Lib.hid (And.intro hI (And.intro hE b5))
      clear hI hE b5
      go_wp2
      go_loopw [6] (fun i wr => ∃ k : Nat, k ≤ 2 ∧ i = .int .i64 k ∧ Below w5.heap.size w5 wr) (fun i _ => 2 - (intOf i).toNat)
      case atStart => exact ⟨0, Nat.zero_le _, rfl, Below.refl _ w5⟩
      case round =>
        obtain ⟨k, hk, rfl, hb⟩ := hrel
        have hI := HI.out.1.below hb
        have hE := HI.out.2.1.below hb
        rcases (show k = 0 ∨ k = 1 ∨ k = 2 by omega) with rfl | rfl | rfl
        · have CC := C0.out
          obtain ⟨X, hne, W, x0, h0, hWb, hW⟩ := fam_of wr
          have hcell : ∀ x, (W x).cell? ⟨g, 0, none⟩ = some (.int .i64 p0) := fun x => (il_at (hI.below (hWb x)) (k := 0) (x := p0) rfl).1
          have C : ∀ x, Calls Try.prog 19 #[.slice (some ⟨b, 0, none⟩) L.length d, .int .i64 n, .int .i64 (L.length)] (W x) fun e w'' => e = .returned (.int .i64 p0) ∧ ∃ y, w'' = W y := by
            intro x
            have T := iLogConfig_any (some ⟨b, 0, none⟩) d L n (L.length) (W x) (hE.below (hWb x)) (by omega)
            rw [CC] at T
            exact fam_calls hW T
          have HB := Lib.hid hWb
          have HC := Lib.hid C
          clear hI hE HI CC C hWb hW
          go_wp2
          refine wp_region_fam W (by kernel_rfl) (by kernel_rfl) x0 h0 ?_
          repeat (go_big_quiet_step (first | (go_at_call 19; exact HC.out _) | fail))
          refine wpQuiet_nil ?_
          rintro _ ⟨x, rfl⟩
          have HB2 := Lib.hid (below_step hb (HB.out x))
          clear hb HB HC hcell
          go_wp2
          go_roundw
          case rel => exact ⟨0 + 1, by omega, by go_num, HB2.out⟩
          case measure => simp [intOf]
        · have CC := C1.out
          obtain ⟨X, hne, W, x0, h0, hWb, hW⟩ := fam_of wr
          have hcell : ∀ x, (W x).cell? ⟨g, 1, none⟩ = some (.int .i64 p1) := fun x => (il_at (hI.below (hWb x)) (k := 1) (x := p1) rfl).1
          have C : ∀ x, Calls Try.prog 19 #[.slice (some ⟨b, 0, none⟩) L.length d, .int .i64 n, .int .i64 ((L.length : Int) + 1)] (W x) fun e w'' => e = .returned (.int .i64 p1) ∧ ∃ y, w'' = W y := by
            intro x
            have T := iLogConfig_any (some ⟨b, 0, none⟩) d L n ((L.length : Int) + 1) (W x) (hE.below (hWb x)) (by omega)
            rw [CC] at T
            exact fam_calls hW T
          have HB := Lib.hid hWb
          have HC := Lib.hid C
          clear hI hE HI CC C hWb hW
          go_wp2
          refine wp_region_fam W (by kernel_rfl) (by kernel_rfl) x0 h0 ?_
          repeat (go_big_quiet_step (first | (go_at_call 19; exact HC.out _) | fail))
          refine wpQuiet_nil ?_
          rintro _ ⟨x, rfl⟩
          have HB2 := Lib.hid (below_step hb (HB.out x))
          clear hb HB HC hcell
          go_wp2
          go_roundw
          case rel => exact ⟨1 + 1, by omega, by go_num, HB2.out⟩
          case measure => simp [intOf]
        · go_wp2
          go_ret
          exact ⟨rfl, below_step HI.out.2.2 hb⟩
    · rw [Bool.not_eq_true] at hok
      rw [hok]
      clear hok hA2
      go_wp2_with fail
      refine (sLogOpen_any _ _ _ _ _ hE (by omega)).mono ?_
      rw [← HM.out]
      rintro e w6 ⟨A6, c6, rfl, o6, b6⟩
      have hI6 := (IL.of_own o6).1
      have hI := hI.below b6
      have b6 := below_step b5 b6
      clear b5 o6 hE
      go_wp2_with fail
      refine (sameInts_yes _ _ _ _ _ _ hI hI6 (by omega)).mono ?_
      rintro e w7 ⟨rfl, b7⟩
      have b7 := below_step b6 b7
      clear b6 hI hI6
      go_wp2
      go_ret
      exact ⟨rfl, b7⟩
  · have ez : decide (1048576 < (l.length : Int)) = true := by simp; omega
    clear ha hc hm hmc hl
    go_enter Try.func6, Try.ntmps6
    go_wp2
    go_ret
    exact ⟨rfl, Below.refl _ _⟩

end Go.Proofs.Ytimijinldhpmfaa
