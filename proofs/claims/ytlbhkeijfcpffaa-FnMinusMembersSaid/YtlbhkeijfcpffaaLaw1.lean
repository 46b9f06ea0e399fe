/- Helpers of the laws by their contracts: comparing two slices, a set derived from a number, the drawn pairs. -/
import Derived.Test.YtlbhkeijfcpffaaMath2
import Derived.Test.YtlbhkeijfcpffaaSpecV
import Derived.Test.YtlbhkeijfcpffaaSpecM
import Derived.Test.YtlbhkeijfcpffaaImpl
import Derived.Test.YtlbhkeijfcpffaaOfMask
import Derived.Test.YtlbhkeijfcpffaaDraw2
namespace Go.Proofs.Ytlbhkeijfcpffaa
open Go.RowKit

theorem same_step {l m : List Int} {k : Nat} {x : Int} (h : l.take k = m.take k) (hl : l[k]? = some x) (hm : m[k]? = some x) : l.take (k + 1) = m.take (k + 1) := by
  rw [List.take_add_one, List.take_add_one, h, hl, hm]
theorem same_no {l m : List Int} {k : Nat} {x y : Int} (hl : l[k]? = some x) (hm : m[k]? = some y) (h : x ≠ y) : same l m = false :=
  same_f (by rintro rfl; rw [hl] at hm; injection hm with hm; exact h hm)

set_option maxHeartbeats 800000 in
/-- Two slices are compared. -/
theorem sameInts_any (A B : Option Addr) (c d : Nat) (l m : List Int) (w : World) (ha : IL w A l) (hb : IL w B m) (hl : l.length ≤ 1048576) :
    Calls Try.prog 16 #[.slice A l.length c, .slice B m.length d] w fun e w' => e = .returned (.bool (same l m)) ∧ Below w.heap.size w w' := by
  by_cases hlen : l.length = m.length
  · rw [← hlen]
    go_enter Try.func16, Try.ntmps16
    go_wp2
    go_loopw [5] (fun i wr => ∃ k : Nat, k ≤ l.length ∧ i = .int .i64 k ∧ Hid (l.take k = m.take k) ∧ Below w.heap.size w wr) (fun i _ => l.length - (intOf i).toNat)
    case atStart => exact ⟨0, Nat.zero_le _, rfl, by simp [Hid], Below.refl _ _⟩
    case round =>
      obtain ⟨k, hk, rfl, htk, hbel⟩ := hrel
      by_cases hlt : k < l.length
      · obtain ⟨b, off, x, rfl, hx, hc⟩ := (ha.below hbel).at_ hlt
        obtain ⟨b', off', x', rfl, hx', hc'⟩ := (hb.below hbel).at_ (show k < m.length by omega)
        have hki : (0 : Int) ≤ (k : Int) := by omega
        have hki2 : (k : Int) < (l.length : Int) := by omega
        by_cases hxx : x = x'
        · subst hxx
          have H := Lib.hid (same_step htk.out hx hx')
          clear hx hx' htk
          go_wp2
          go_quiet (fail)
          go_wp2
          go_roundw
          case rel => exact ⟨k + 1, by omega, by go_num, H.out, below_drewN hbel _⟩
          case measure => simp [intOf]; omega
        · have H := Lib.hid (same_no hx hx' hxx)
          clear hx hx' htk
          go_wp2
          go_quiet (fail)
          go_wp2
          go_ret
          exact ⟨ret_bool H.out.symm, below_drewN hbel _⟩
      · have H := Lib.hid (show same l m = true from same_t (by have h := htk.out; rwa [List.take_of_length_le (by omega), List.take_of_length_le (by omega)] at h))
        clear htk
        go_wp2
        go_ret
        exact ⟨ret_bool H.out.symm, hbel⟩
  · have H := Lib.hid (same_f (l := l) (m := m) (fun e => hlen (by rw [e])))
    have hlb : ((l.length : Int) == (m.length : Int)) = false := by simp; omega
    clear hlen
    go_enter Try.func16, Try.ntmps16
    go_wp2
    go_ret
    exact ⟨ret_bool H.out.symm, Below.refl _ _⟩

/-- The mask that a number gives. -/
def nmask (n : Nat) : Nat := n * 37 % 64
theorem nmask_lt (n : Nat) : nmask n < 64 := Nat.mod_lt _ (by decide)
theorem memR_nat {m : Nat} (h : m < 64) : memR (m : Int) = mem m := by unfold memR; rw [if_pos ⟨by omega, by omega⟩]; rfl
set_option maxHeartbeats 400000 in
theorem setOf_any (n : Nat) (w : World) (hn : n ≤ 1048576) : Calls Try.prog 21 #[.int .i64 n] w (New w (mem (nmask n))) := by
  have e1 : (n : Int) * 37 % 64 = ((nmask n : Nat) : Int) := by unfold nmask; omega
  have e2 : Int.tmod ((n : Int) * 37) 64 = ((nmask n : Nat) : Int) := by rw [Int.tmod_eq_emod_of_nonneg (by omega)]; exact e1
  go_enter Try.func21, Try.ntmps21
  go_wp2_with fail
  refine (implOfMask_any ((nmask n : Nat) : Int) _).mono ?_
  rw [memR_nat (nmask_lt n)]
  rintro e w1 ⟨A, c, rfl, o, b⟩
  have D := Lib.hid (show New w (mem (nmask n)) (.returned (.slice A (mem (nmask n)).length c)) w1 from ⟨A, c, rfl, o, b⟩)
  clear o b e1 e2
  go_wp2
  go_ret
  exact D.out

set_option maxHeartbeats 400000 in
theorem drawSetIntersect_any (A : Option Addr) (c : Nat) (l : List Int) (w : World) (ha : BL w A l) (hc : l.length ≤ c) (hm : l.length ≤ maxLen) (hmc : c ≤ maxLen) :
    Calls Try.prog 22 #[.slice A l.length c] w (Drawn2 w) := by
  go_enter Try.func22, Try.ntmps22
  go_wp2_with fail
  refine (drawSetUnion_any _ _ _ _ ha hc hm hmc).mono ?_
  rintro e w1 ⟨a, b, A1, B1, c1, d1, ha7, hb7, rfl, ia, ib, b1⟩
  have D := Lib.hid (show Drawn2 w (.returned (.tuple #[.slice A1 a.length c1, .slice B1 b.length d1])) w1 from ⟨a, b, A1, B1, c1, d1, ha7, hb7, rfl, ia, ib, b1⟩)
  clear ia ib b1
  go_wp2
  go_ret2
  exact D.out
set_option maxHeartbeats 400000 in
theorem drawSetMinus_any (A : Option Addr) (c : Nat) (l : List Int) (w : World) (ha : BL w A l) (hc : l.length ≤ c) (hm : l.length ≤ maxLen) (hmc : c ≤ maxLen) :
    Calls Try.prog 25 #[.slice A l.length c] w (Drawn2 w) := by
  go_enter Try.func25, Try.ntmps25
  go_wp2_with fail
  refine (drawSetUnion_any _ _ _ _ ha hc hm hmc).mono ?_
  rintro e w1 ⟨a, b, A1, B1, c1, d1, ha7, hb7, rfl, ia, ib, b1⟩
  have D := Lib.hid (show Drawn2 w (.returned (.tuple #[.slice A1 a.length c1, .slice B1 b.length d1])) w1 from ⟨a, b, A1, B1, c1, d1, ha7, hb7, rfl, ia, ib, b1⟩)
  clear ia ib b1
  go_wp2
  go_ret2
  exact D.out

theorem bothI_len (a b : List Int) (h : a.length ≤ 7) : (both inter a b).length ≤ 7 := by
  unfold both; split
  · exact Nat.le_trans (inter_len a b) h
  · simp
set_option maxHeartbeats 1600000 in
theorem drawSetSubset_any (A : Option Addr) (c : Nat) (l : List Int) (w : World) (ha : BL w A l) (hc : l.length ≤ c) (hm : l.length ≤ maxLen) (hmc : c ≤ maxLen) :
    Calls Try.prog 28 #[.slice A l.length c] w (Drawn2 w) := by
  go_enter Try.func28, Try.ntmps28
  go_wp2_with fail
  refine (l6Open_any _ _ _ _ ha hc hm hmc).mono ?_
  rintro e w1 ⟨rfl, hr1, b1⟩
  have hlt := hr1.lt
  go_wp2_with fail
  refine (l91Set_any _ _ _ hr1 (by omega)).mono ?_
  rintro e w2 ⟨a, A2, c2, q2, ha7, rfl, o2, hr2, hq2, g2⟩
  go_wp2_with fail
  refine (l91Set_any _ _ _ hr2 (by omega)).mono ?_
  rintro e w3 ⟨b, A3, c3, q3, hb7, rfl, o3, hr3, hq3, g3⟩
  have o2' := kept_far o2 g3 hlt
  have hlt2 : w.heap.size < w2.heap.size := Nat.lt_of_lt_of_le hlt g2.size
  have B3 : Below w.heap.size w w3 := (b1.grown g2 b1.size (fun k hk => by injection hk with hk; omega)).grown g3 (Nat.le_trans b1.size g2.size) (fun k hk => by injection hk with hk; omega)
  clear hr1 hr2 o2 b1 g2 g3
  go_wp2_with fail
  refine (pickX _ _ 2 _ hr3 (by omega) (by omega) (by omega)).mono ?_
  rintro e w4 ⟨y, y0, y1, rfl, hr4, g4⟩
  have ia := (IL.of_own (kept_far o2' g4 hlt)).1
  have ib := (IL.of_own (kept_far o3 g4 hlt2)).1
  have B4 : Below w.heap.size w w4 := B3.grown g4 B3.size (fun k hk => by injection hk with hk; omega)
  clear o2' o3 g4 B3 hr3 hr4
  by_cases hy : y = 0
  · have hyb : (y == 0) = true := by simpa using hy
    have hbl := bothI_len a b ha7
    clear hy
    go_wp2_with fail
    refine (specInter_any _ _ _ _ _ _ _ ia ib (by omega) (by omega)).mono ?_
    rintro e w5 ⟨AI, cI, rfl, oI, b5⟩
    have D := Lib.hid (show Drawn2 w (.returned (.tuple #[.slice AI (both inter a b).length cI, .slice A3 b.length c3])) w5 from ⟨_, b, AI, A3, cI, c3, hbl, hb7, rfl, (IL.of_own oI).1, ib.below b5, below_step B4 b5⟩)
    clear oI b5 B4 ia ib
    go_wp2
    go_ret2
    exact D.out
  · have hyb : (y == 0) = false := by simpa using hy
    have D := Lib.hid (show Drawn2 w (.returned (.tuple #[.slice A2 a.length c2, .slice A3 b.length c3])) w4 from ⟨a, b, A2, A3, c2, c3, ha7, hb7, rfl, ia, ib, B4⟩)
    clear hy ia ib B4
    go_wp2
    go_ret2
    exact D.out

set_option maxHeartbeats 800000 in
theorem drawSetMask_any (A : Option Addr) (c : Nat) (l : List Int) (w : World) (ha : BL w A l) (hc : l.length ≤ c) (hm : l.length ≤ maxLen) (hmc : c ≤ maxLen) :
    Calls Try.prog 31 #[.slice A l.length c] w fun e w' => ∃ s : List Int, s.length ≤ 7 ∧ New w s e w' := by
  go_enter Try.func31, Try.ntmps31
  go_wp2_with fail
  refine (l6Open_any _ _ _ _ ha hc hm hmc).mono ?_
  rintro e w1 ⟨rfl, hr1, b1⟩
  go_wp2_with fail
  refine (l91Set_any _ _ _ hr1 (by omega)).mono ?_
  rintro e w2 ⟨a, A2, c2, q2, ha7, rfl, o2, hr2, hq2, g2⟩
  have hlt := hr1.lt
  have D := Lib.hid (show ∃ s : List Int, s.length ≤ 7 ∧ New w s (.returned (.slice A2 a.length c2)) w2 from ⟨a, ha7, New.mk (own_base o2 b1.size) (b1.grown g2 b1.size (fun k hk => by injection hk with hk; omega))⟩)
  clear o2 hr1 hr2 g2 b1
  go_wp2
  go_ret
  exact D.out

set_option maxHeartbeats 800000 in
theorem drawSetOfMask_any (A : Option Addr) (c : Nat) (l : List Int) (w : World) (ha : BL w A l) (hc : l.length ≤ c) (hm : l.length ≤ maxLen) (hmc : c ≤ maxLen) :
    Calls Try.prog 35 #[.slice A l.length c] w fun e w' => (∃ m : Int, -2 ≤ m ∧ m < 66 ∧ e = .returned (.int .i64 m)) ∧ Below w.heap.size w w' := by
  go_enter Try.func35, Try.ntmps35
  go_wp2_with fail
  refine (l6Open_any _ _ _ _ ha hc hm hmc).mono ?_
  rintro e w1 ⟨rfl, hr1, b1⟩
  have hlt := hr1.lt
  go_wp2_with fail
  refine (pickX _ _ 68 _ hr1 (by omega) (by omega) (by omega)).mono ?_
  rintro e w2 ⟨y, y0, y1, rfl, hr2, g2⟩
  have B2 : Below w.heap.size w w2 := b1.grown g2 b1.size (fun k hk => by injection hk with hk; omega)
  clear hr1 hr2 g2 b1
  go_wp2
  go_ret
  exact ⟨⟨_, by omega, by omega, rfl⟩, B2⟩

set_option maxHeartbeats 1600000 in
theorem drawSetContains_any (A : Option Addr) (c : Nat) (l : List Int) (w : World) (ha : BL w A l) (hc : l.length ≤ c) (hm : l.length ≤ maxLen) (hmc : c ≤ maxLen) :
    Calls Try.prog 37 #[.slice A l.length c] w fun e w' => ∃ (s : List Int) (B : Option Addr) (d : Nat) (m : Int), s.length ≤ 7 ∧ -1 ≤ m ∧ m ≤ 7 ∧ e = .returned (.tuple #[.slice B s.length d, .int .i64 m]) ∧ IL w' B s ∧ Below w.heap.size w w' := by
  go_enter Try.func37, Try.ntmps37
  go_wp2_with fail
  refine (l6Open_any _ _ _ _ ha hc hm hmc).mono ?_
  rintro e w1 ⟨rfl, hr1, b1⟩
  have hlt := hr1.lt
  go_wp2_with fail
  refine (l91Set_any _ _ _ hr1 (by omega)).mono ?_
  rintro e w2 ⟨a, A2, c2, q2, ha7, rfl, o2, hr2, hq2, g2⟩
  have B2 : Below w.heap.size w w2 := b1.grown g2 b1.size (fun k hk => by injection hk with hk; omega)
  clear hr1 g2 b1
  go_wp2_with fail
  refine (pickX _ _ 9 _ hr2 (by omega) (by omega) (by omega)).mono ?_
  rintro e w3 ⟨y, y0, y1, rfl, hr3, g3⟩
  have ia := (IL.of_own (kept_far o2 g3 hlt)).1
  have B3 : Below w.heap.size w w3 := B2.grown g3 B2.size (fun k hk => by injection hk with hk; omega)
  clear hr2 hr3 g3 B2 o2
  have IA := Lib.hid ia
  clear ia
  go_wp2
  go_ret2
  exact ⟨a, A2, c2, _, ha7, by omega, by omega, rfl, IA.out, B3⟩
end Go.Proofs.Ytlbhkeijfcpffaa
