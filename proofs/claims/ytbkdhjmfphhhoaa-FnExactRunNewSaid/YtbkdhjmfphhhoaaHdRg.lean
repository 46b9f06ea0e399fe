/- Marks in a run are found as they were written. -/
import Derived.Test.YtbkdhjmfphhhoaaGm
namespace Go.Proofs.Ytbkdhjmfphhhoaa
open Go.RowKit

set_option maxRecDepth 100000 in
set_option maxHeartbeats 800000 in
theorem heldAccS_any (A : Option Addr) (c : Nat) (k n : Nat) (K : Int) (hK : K = (k : Int)) (w : World) (ha : AL w A (marksA k n)) (hl : n ≤ 1048576) (hk : k ≤ 8388608) :
    Calls Try.prog 93 #[.slice A n c, .int .i64 K] w fun e w' => e = .returned (.int .i64 (K + ((n * 3 : Nat) : Int))) ∧ w = w' := by
  subst hK
  go_enter Try.func93, Try.ntmps93
  go_wp2
  go_loop [1, 5] (fun q i => ∃ j : Nat, j ≤ n ∧ i = .int .i64 j ∧ q = .int .i64 ((k + j * 3 : Nat) : Int)) (fun _ i => n - (intOf i).toNat)
  case atStart => exact ⟨0, Nat.zero_le _, rfl, by simp⟩
  case round =>
    obtain ⟨j, hj, rfl, rfl⟩ := hrel
    by_cases hlt : j < n
    · obtain ⟨b, off, x, rfl, hx, c0, c1, c2⟩ := ha.at_ (by rw [marksA_len]; exact hlt)
      rw [marksA_at k n j hlt] at hx
      obtain rfl := Option.some.inj hx
      have hki : (0 : Int) ≤ (j : Int) := by omega
      have hki2 : (j : Int) < (n : Int) := by omega
      have HQ := Lib.hid (show ((k + j * 3 : Nat) : Int) + 1 + 1 + 1 = ((k + (j + 1) * 3 : Nat) : Int) by omega)
      obtain ⟨W, hW⟩ : ∃ W : Nat, W = k + j * 3 := ⟨_, rfl⟩
      have hb9 : W ≤ 12582912 := by omega
      rw [← hW] at HQ c0 c1 c2 ⊢
      unfold markA1 at c0 c1 c2
      simp only at c0 c1 c2
      clear hx hW
      go_wp2
      go_round
      case rel => exact ⟨j + 1, by omega, by go_num, (by refine congrArg (Value.int .i64) ?_; have := HQ.out; omega)⟩
      case measure => simp [intOf]; omega
    · have hkl : j = n := by omega
      subst hkl
      go_wp2
      go_ret
      exact ⟨ret_int (by omega), rfl⟩

theorem markP_at {l : List Pr} {j : Nat} {p : Pr} (h : l[j]? = some p) : ∀ k, (markP k l)[j]? = some (markP1 (k + wtP (l.take j)) p.2.2.length) := by
  induction l generalizing j with
  | nil => simp at h
  | cons a l ih =>
    intro k
    cases j with
    | zero => simp at h; subst h; simp [markP, wtP, pvs, wt]
    | succ j =>
      simp at h
      rw [markP, List.getElem?_cons_succ, ih h, List.take_succ_cons, wtP_cons, show k + 2 + a.2.2.length + wtP (l.take j) = k + (2 + a.2.2.length + wtP (l.take j)) by omega]
theorem heldI_k (A : Option Addr) (c : Nat) (k : Nat) (K : Int) (n m : Nat) (hK : K = (k : Int)) (hm : m = n) (w : World) (ha : IL w A (marks k n)) (hl : n ≤ 1048576) (hk : k ≤ 1073741824) :
    Calls Try.prog 48 #[.slice A m c, .int .i64 K] w fun e w' => e = .returned (.int .i64 (K + n)) ∧ w = w' := by
  subst hK hm
  refine (heldIntS_any A c k m w ha hl hk).mono fun e w' ⟨he, h⟩ => ⟨?_, h⟩
  rw [he, Int.natCast_add]

set_option maxRecDepth 100000 in
set_option maxHeartbeats 1600000 in
theorem heldPrS_any (A : Option Addr) (c : Nat) (l : List Pr) (k : Nat) (K : Int) (hK : K = (k : Int)) (w : World) (ha : PL w A (markP k l)) (hl : l.length ≤ 1048576) (hs : wtP l ≤ 8388608) (hv : Short (pvs l) 1048576) (hk : k ≤ 16777216) :
    Calls Try.prog 94 #[.slice A l.length c, .int .i64 K] w fun e w' => e = .returned (.int .i64 (K + wtP l)) ∧ w = w' := by
  subst hK
  have HSh := Lib.hid hv
  clear hv
  go_enter Try.func94, Try.ntmps94
  go_wp2
  go_loop [1, 5] (fun q i => ∃ j : Nat, j ≤ l.length ∧ i = .int .i64 j ∧ q = .int .i64 ((k + wtP (l.take j) : Nat) : Int)) (fun _ i => l.length - (intOf i).toNat)
  case atStart => exact ⟨0, Nat.zero_le _, rfl, rfl⟩
  case round =>
    obtain ⟨j, hj, rfl, rfl⟩ := hrel
    by_cases hlt : j < l.length
    · obtain ⟨p, hx⟩ : ∃ p, l[j]? = some p := ⟨_, List.getElem?_eq_getElem hlt⟩
      obtain ⟨b, off, p', B, d, rfl, hx', c0, c1, c2, il⟩ := ha.at_ (k := j) (by rw [markP_len]; exact hlt)
      rw [markP_at hx] at hx'
      obtain rfl := Option.some.inj hx'
      have hw1 := wtP_take hx
      have hw2 := wtP_le l (j + 1)
      have hpl := PL.short HSh.out hx
      have hki : (0 : Int) ≤ (j : Int) := by omega
      have hki2 : (j : Int) < (l.length : Int) := by omega
      obtain ⟨W, hW⟩ : ∃ W : Nat, W = k + wtP (l.take j) := ⟨_, rfl⟩
      have hb9 : W ≤ 25165824 := by omega
      have HQ := Lib.hid (show (W : Int) + 1 + 1 + (p.2.2.length : Int) = ((k + wtP (l.take (j + 1)) : Nat) : Int) by omega)
      obtain ⟨m, hm⟩ : ∃ m, m = p.2.2.length := ⟨_, rfl⟩
      rw [← hW] at c0 c1 c2 il ⊢
      rw [← hm] at c0 c1 c2 il HQ hpl
      unfold markP1 at c0 c1 c2 il
      simp only at c0 c1 c2 il
      rw [marks_len] at c2
      have hneg : ¬ (W : Int) + 1 + 1 + (m : Int) < 0 := by omega
      clear hx hx' hw1 hw2 hW hm
      go_wp2_with fail
      refine (heldI_k _ _ (W + 2) _ _ _ (by omega) rfl _ il hpl (by omega)).mono ?_
      rintro e w' ⟨rfl, rfl⟩
      go_wp2
      go_round
      case rel => exact ⟨j + 1, by omega, by go_num, (by refine congrArg (Value.int .i64) ?_; have := HQ.out; omega)⟩
      case measure => simp [intOf]; omega
    · have hkl : j = l.length := by omega
      subst hkl
      rw [List.take_length]
      go_wp2
      go_ret
      exact ⟨ret_int (by omega), rfl⟩

set_option maxRecDepth 100000 in
set_option maxHeartbeats 1600000 in
theorem heldRun_k (A B C D : Option Addr) (c d e f : Nat) (r : Rn) (w : World) (h : Reads w A B C D (markR 1 r)) (hl : rsz r ≤ 1048576) :
    Calls Try.prog 41 #[RVal A B C D c d e f r, .int .i64 1] w fun x w' => ∃ n : Nat, x = .returned (.int .i64 (n : Int)) ∧ n = 1 + wtR r ∧ Below w.heap.size w w' := by
  have HL := Lib.hid (rsz_len hl)
  have HW := Lib.hid (rsz_wt hl)
  have ba : Below w.heap.size w (w.alloc (.cells #[.slice A r.P.length c, .slice B r.Q.length d, .slice C r.ac.length e, .slice D r.pr.length f] 30)) := (Below.refl _ w).alloc (Nat.le_refl _) _
  have rb := RB.new w (.slice A r.P.length c) (.slice B r.Q.length d) (.slice C r.ac.length e) (.slice D r.pr.length f) 30
  have H := Lib.hid h
  clear h hl
  go_enter Try.func41, Try.ntmps41
  go_wp2_with fail
  refine (heldConfig_any _ _ _ _ _ _ 1 1 rfl _ (H.out.P.below ba) (H.out.Q.below ba) HL.out.P HW.out.1 HL.out.Q HW.out.2.1 (by have := HW.out; omega)).mono ?_
  rintro x w1 ⟨rfl, b1⟩
  have B1 := below_step ba b1
  have r1 := rb.below b1
  have q2 := r1.c2
  have n1 : ¬ (1 : Int) + (wt r.P : Int) + (wt r.Q : Int) < 0 := by omega
  clear b1 ba rb
  go_wp2_with fail
  refine (heldAccS_any _ _ (1 + wt r.P + wt r.Q) r.ac.length _ (by omega) _ (H.out.ac.below B1) HL.out.ac (by have := HW.out; omega)).mono ?_
  rintro x w' ⟨rfl, rfl⟩
  have q3 := r1.c3
  have n2 : ¬ (1 : Int) + (wt r.P : Int) + (wt r.Q : Int) + ((r.ac.length * 3 : Nat) : Int) < 0 := by omega
  have n2' : ¬ (1 : Int) + (wt r.P : Int) + (wt r.Q : Int) + (r.ac.length : Int) * 3 < 0 := by omega
  clear q2
  go_wp2_with fail
  refine (heldPrS_any _ _ _ (1 + wt r.P + wt r.Q + r.ac.length * 3) _ (by omega) _ (H.out.pr.below B1) HL.out.pr HW.out.2.2 HL.out.sv (by have := HW.out; have := HL.out.ac; omega)).mono ?_
  rintro x w' ⟨rfl, rfl⟩
  have HE := Lib.hid (show (1 : Int) + (wt r.P : Int) + (wt r.Q : Int) + (r.ac.length : Int) * 3 + (wtP r.pr : Int) = ((1 + wtR r : Nat) : Int) by unfold wtR; omega)
  clear q3 r1
  rw [HE.out]
  obtain ⟨n, hn⟩ : ∃ n, n = 1 + wtR r := ⟨_, rfl⟩
  rw [← hn]
  have n3 : ¬ (n : Int) < 0 := by omega
  have HN := Lib.hid hn
  clear hn n1 n2 n2'
  go_wp2
  go_ret
  exact ⟨n, rfl, HN.out, B1⟩
end Go.Proofs.Ytbkdhjmfphhhoaa
