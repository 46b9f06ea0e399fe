/- Drawn vote assignments by their contracts. -/
import Derived.Test.YtgbijndfpbcjeaaDraw2
import Derived.Test.YtgbijndfpbcjeaaSame
namespace Go.Proofs.Ytgbijndfpbcjeaa
open Go.RowKit

/-- Behind an append of one drawn number to a row of the call's own. -/
theorem step_app {w w3 w4 : World} {g q : Nat} {l : List Int} {v v' : Value} {x : Int} {o : Obj} (hlt : g < w.heap.size)
    (hg2 : w.grownBy w3 (some g)) (hr : RdX w3 g q) (hv : ∀ k, v.ownBlock = some k → w.heap.size ≤ k)
    (ho : w4.ownsRow w.heap.size 3 1 v' (l.length + 1) (l.map (Value.int .i64) ++ [.int .i64 x])) (hg : (w3.alloc o).grownBy w4 v.ownBlock) :
    ∃ A c, v' = .slice A (l ++ [x]).length c ∧ w4.ownsRow w.heap.size 3 1 (.slice A (l ++ [x]).length c) (l ++ [x]).length ((l ++ [x]).map (Value.int .i64)) ∧ RdX w4 g q ∧ w.grownBy w4 (some g) := by
  have hg3 : w3.grownBy w4 v.ownBlock := ⟨hg.os, hg.tape, hg.output, Nat.le_trans (by simp) hg.size, fun i hi hne => (hg.block i (by simp; omega) hne).trans (Below.heap_alloc w3 o i hi)⟩
  have h1 : w4.ownsRow w.heap.size 3 1 v' (l ++ [x]).length ((l ++ [x]).map (Value.int .i64)) := by simpa using ho
  obtain ⟨A, c, rfl⟩ := own_slice h1
  exact ⟨A, c, rfl, h1, hr.grown hg3 fun k hk => Nat.lt_of_lt_of_le hlt (hv k hk), grown_new hg2 hg3 hv⟩

/-- A drawn list of at most seven numbers. -/
def DrawnW (w : World) (g p : Nat) (e : Ending) (w' : World) : Prop :=
  ∃ (l : List Int) (A : Option Addr) (c q : Nat), l.length ≤ 7 ∧ e = .returned (.slice A l.length c) ∧ w'.ownsRow w.heap.size 3 1 (.slice A l.length c) l.length (l.map (Value.int .i64)) ∧ RdX w' g q ∧ q ≤ p + 10 ∧ w.grownBy w' (some g)

set_option maxRecDepth 100000 in
set_option maxHeartbeats 1600000 in
theorem l91Weights_any (g p : Nat) (w : World) (h : RdX w g p) (hp : p ≤ 900000) :
    Calls Try.prog 78 #[.pointer (some ⟨g, 0, none⟩)] w (DrawnW w g p) := by
  obtain ⟨i0, hi0, hz0, hz1, hz2⟩ := info_parts int_info
  have hlt := h.lt
  have hbm : Below w.heap.size w (w.alloc (.cells #[] 3)) := (Below.refl _ w).alloc (Nat.le_refl _) _
  have hr1 := h.below hbm
  have hg1 := World.grownBy_alloc w (.cells #[] 3) (some g)
  have ho1 : (w.alloc (.cells #[] 3)).ownsRow w.heap.size 3 1 (.slice (some ⟨w.heap.size, 0, none⟩) 0 0) 0 [] := World.ownsRow_made w #[] 0 (Nat.le_refl _) (by unfold maxLen; omega) (by simp)
  clear hbm h
  go_enter Try.func78, Try.ntmps78
  go_wp2_with fail
  generalize w.alloc (.cells #[] 3) = w1 at *
  refine (pickX _ _ 6 _ hr1 (by omega) (by omega) (by omega)).mono ?_
  rintro e w2 ⟨x, x0, x1, rfl, hr2, hg2⟩
  obtain ⟨m, rfl⟩ := Int.eq_ofNat_of_zero_le x0
  have H0 := Lib.hid (And.intro (kept_far ho1 hg2 hlt) (And.intro hr2 (grown_trans hg1 hg2)))
  clear ho1 hr1 hg1 hr2 hg2
  go_wp2
  go_loopw [3, 4] (fun v i wr => ∃ (l : List Int) (n q : Nat) (A : Option Addr) (c : Nat), i = .int .i64 n ∧ v = .slice A l.length c ∧ n + l.length ≤ 6 ∧ wr.ownsRow w.heap.size 3 1 (.slice A l.length c) l.length (l.map (Value.int .i64)) ∧ RdX wr g q ∧ q ≤ p + 1 + l.length ∧ w.grownBy wr (some g)) (fun _ i _ => (intOf i).toNat)
  case atStart => exact ⟨[], 1 + m, p + 1, _, _, by go_num, rfl, by simp; omega, H0.out.1, H0.out.2.1, by simp, H0.out.2.2⟩
  case round =>
    clear H0
    obtain ⟨l, n, q, A, c, rfl, rfl, hnl, hown, hrd, hq, hgr⟩ := hrel
    cases n with
    | succ n =>
      have hn0 : (0 : Int) < ((n + 1 : Nat) : Int) := by omega
      go_wp2_with fail
      refine (pickX _ _ 4 _ hrd (by omega) (by omega) (by omega)).mono ?_
      rintro e w3 ⟨y, y0, y1, rfl, hr3, hg3⟩
      have hown3 := kept_far hown hg3 hlt
      have hgr3 := grown_trans hgr hg3
      have hg3s := hgr3.size
      have hv : ∀ k, (Value.slice A l.length c).ownBlock = some k → w.heap.size ≤ k := fun k hk => (hown3.lt k hk).1
      clear hown hrd hgr hg3
      go_wp2_with (at_builtin; refine wpList_append_own _ rfl (.tmp 13) (.tmp 16) 28 rfl w.heap.size 3 i0 (.int .i64 0) 1 8 Try.underlying28 hi0 hz0 hz1 hz2 rfl (by decide) _ _ _ rfl (hown3.alloc _) ⟨w3.heap.size, 0, none⟩ 1 1 [.int .i64 y] rfl rfl (cell_one_new _ _ _) (ints_oneCell .i64 [(y : Int)]) (by unfold maxLen; omega) (by omega) (by simp; omega) ?_)
      intro v' w4 ho4 hg4 _
      obtain ⟨A4, c4, rfl, ho5, hr5, hg5⟩ := step_app hlt hgr3 hr3 hv ho4 hg4
      have D := Lib.hid (And.intro ho5 (And.intro hr5 hg5))
      have hll : (l ++ [y]).length = l.length + 1 := by simp
      have hn1 : ((n + 1 : Nat) : Int) - 1 = (n : Int) := by omega
      clear ho4 hg4 ho5 hr5 hg5 hown3 hr3 hgr3
      generalize l ++ [y] = l2 at *
      go_wp2
      go_roundw
      case rel => exact ⟨l2, n, q + 1, A4, c4, by go_num, rfl, by omega, D.out.1, D.out.2.1, by omega, D.out.2.2⟩
      case measure => simp [intOf]
    | zero =>
      go_wp2_with fail
      refine (pickX _ _ 40 _ hrd (by omega) (by omega) (by omega)).mono ?_
      rintro e w3 ⟨y, y0, y1, rfl, hr3, hg3⟩
      have hown3 := kept_far hown hg3 hlt
      have hgr3 := grown_trans hgr hg3
      have hg3s := hgr3.size
      have hv : ∀ k, (Value.slice A l.length c).ownBlock = some k → w.heap.size ≤ k := fun k hk => (hown3.lt k hk).1
      clear hown hrd hgr hg3
      by_cases hy : y = 0
      · have hyb : (y == 0) = true := by simpa using hy
        clear hy
        go_wp2_with (at_builtin; refine wpList_append_own _ rfl (.tmp 21) (.tmp 22) 28 rfl w.heap.size 3 i0 (.int .i64 0) 1 8 Try.underlying28 hi0 hz0 hz1 hz2 rfl (by decide) _ _ _ rfl (hown3.alloc _) ⟨w3.heap.size, 0, none⟩ 1 1 [.int .i64 10] rfl rfl (cell_one_new _ _ _) (ints_oneCell .i64 [(10 : Int)]) (by unfold maxLen; omega) (by omega) (by simp; omega) ?_)
        intro v' w4 ho4 hg4 _
        obtain ⟨A4, c4, rfl, ho5, hr5, hg5⟩ := step_app hlt hgr3 hr3 hv ho4 hg4
        have D := Lib.hid (show DrawnW w g p (.returned (.slice A4 (l ++ [10]).length c4)) w4 from ⟨l ++ [10], A4, c4, q + 1, by simp; omega, rfl, ho5, hr5, by omega, hg5⟩)
        clear ho4 hg4 ho5 hr5 hg5 hown3 hr3 hgr3
        go_wp2
        go_ret
        exact D.out
      · have hyb : (y == 0) = false := by simpa using hy
        have D := Lib.hid (show DrawnW w g p (.returned (.slice A l.length c)) w3 from ⟨l, A, c, q + 1, by omega, rfl, hown3, hr3, by omega, hgr3⟩)
        clear hy hown3 hr3 hgr3
        go_wp2
        go_ret
        exact D.out

/-- A drawn assignment and a drawn number. -/
def DrawnWN (w : World) (e : Ending) (w' : World) : Prop :=
  ∃ (v : List Int) (n : Int) (A : Option Addr) (c : Nat), v.length ≤ 7 ∧ 0 ≤ n ∧ n < 14 ∧ e = .returned (.tuple #[.slice A v.length c, .int .i64 n]) ∧ IL w' A v ∧ Below w.heap.size w w'

set_option maxRecDepth 100000 in
set_option maxHeartbeats 1600000 in
theorem drawWFam_any (A : Option Addr) (c : Nat) (l : List Int) (w : World) (ha : BL w A l) (hc : l.length ≤ c) (hm : l.length ≤ maxLen) (hmc : c ≤ maxLen) :
    Calls Try.prog 31 #[.slice A l.length c] w (DrawnWN w) := by
  go_enter Try.func31, Try.ntmps31
  go_wp2_with fail
  refine (l6Open_any _ _ _ _ ha hc hm hmc).mono ?_
  rintro e w1 ⟨rfl, hr1, b1⟩
  have hlt := hr1.lt
  go_wp2_with fail
  refine (l91Weights_any _ _ _ hr1 (by omega)).mono ?_
  rintro e w2 ⟨a, A2, c2, q2, ha7, rfl, o2, hr2, hq2, g2⟩
  go_wp2_with fail
  refine (pickX _ _ 14 _ hr2 (by omega) (by omega) (by omega)).mono ?_
  rintro e w3 ⟨y, y0, y1, rfl, hr3, g3⟩
  have o2' := kept_far o2 g3 hlt
  have B3 : Below w.heap.size w w3 := (b1.grown g2 b1.size (fun k hk => by injection hk with hk; omega)).grown g3 (Nat.le_trans b1.size g2.size) (fun k hk => by injection hk with hk; omega)
  have D := Lib.hid (show DrawnWN w (.returned (.tuple #[.slice A2 a.length c2, .int .i64 y])) w3 from ⟨a, y, A2, c2, ha7, y0, y1, rfl, (IL.of_own o2').1, B3⟩)
  clear o2 o2' B3 hr1 hr2 hr3 g2 g3 b1
  go_wp2
  go_ret2
  exact D.out
end Go.Proofs.Ytgbijndfpbcjeaa
