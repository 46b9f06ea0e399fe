/- Draws of quorum systems with a number of members or with failed members. -/
import Derived.Test.YtngacjfoldgjpaaGreatDoorDrawFg
namespace Go.Proofs.YtngacjfoldgjpaaGreatDoor
open Go.RowKit

/-- What the draw of a quorum system and a number hands back. -/
def DrewFN (w : World) (e : Ending) (w' : World) : Prop :=
  ∃ (F : List (List Int)) (n : Int) (A : Option Addr) (c : Nat), F.length ≤ 65 ∧ Short F 7 ∧ 0 ≤ n ∧ n ≤ 7 ∧ e = .returned (.tuple #[.slice A F.length c, .int .i64 n]) ∧ ISS w' A F ∧ Below w.heap.size w w'
def sel (x y : Int) : Int := if y = 3 then x else 6
theorem sel_rng {x y : Int} (h0 : 0 ≤ x) (h8 : x < 8) : 0 ≤ sel x y ∧ sel x y ≤ 7 := by unfold sel; split <;> omega
theorem RdX.drew {w : World} {g p : Nat} (h : RdX w g p) : RdX w.drew g p := h
theorem RdX.alloc {w : World} {g p : Nat} (h : RdX w g p) (o : Obj) : RdX (w.alloc o) g p := h.below ((Below.refl _ w).alloc (Nat.le_refl _) o)
theorem sel_cell (w : World) (x y : Int) (h0 : 0 ≤ y) (h4 : y < 4) : (w.alloc (.cells #[.int .i64 6, .int .i64 6, .int .i64 6, .int .i64 x] 3)).cell? ⟨w.heap.size, y.toNat, none⟩ = some (.int .i64 (sel x y)) := by
  rw [cell_of_row _ w.heap.size y.toNat #[.int .i64 6, .int .i64 6, .int .i64 6, .int .i64 x] 3 (0, 0) (heap_alloc_new w _)]
  have : y = 0 ∨ y = 1 ∨ y = 2 ∨ y = 3 := by omega
  rcases this with rfl | rfl | rfl | rfl <;> rfl

theorem sel_kept {w w4 : World} {g p : Nat} {x y : Int} (h0 : 0 ≤ y) (h4 : y < 4) (hr : RdX w g p) (hg : (w.alloc (.cells #[.int .i64 6, .int .i64 6, .int .i64 6, .int .i64 x] 3)).grownBy w4 (some g)) : w4.cell? ⟨w.heap.size, y.toNat, none⟩ = some (.int .i64 (sel x y)) := by
  have hlt := hr.lt
  exact (World.cell?_of_block (w := w.alloc (.cells #[.int .i64 6, .int .i64 6, .int .i64 6, .int .i64 x] 3)) (hg.block w.heap.size (by simp) (by intro e; injection e with e; omega))).trans (sel_cell w x y h0 h4)

set_option maxRecDepth 100000 in
set_option maxHeartbeats 400000 in
theorem drawRes_any (A : Option Addr) (c : Nat) (l : List Int) (w : World) (ha : BL w A l) (hc : l.length ≤ c) (hm : l.length ≤ maxLen) (hmc : c ≤ maxLen) :
    Calls Tryz.prog 4 #[.slice A l.length c] w (DrewFN w) := by
  go_enter Tryz.func4, Tryz.ntmps4
  go_wp2_with fail
  refine (l6Open_any _ _ _ _ ha hc hm hmc).mono ?_
  rintro e w1 ⟨rfl, hr1, b1⟩
  have hlt := hr1.lt
  have hlim : 0 ≤ 900 := by omega
  go_wp2
  go_region_law (first
    | (go_simp; go_at_call 12; (with_reducible refine (l91Family_any _ _ _ hr1.drew hlim).mono ?_); rintro e w2 ⟨F, A2, c2, q2, hF, hS, rfl, o2, hr2, hq2, g2⟩; have hq2' : q2 ≤ 1000000 := (by omega); have hq3' : q2 + 1 ≤ 1000000 := (by omega))
    | (go_simp; go_at_call 13; (with_reducible refine (pickX _ _ 8 _ hr2 (by omega) (by omega) hq2').mono ?_); rintro e w3 ⟨x, x0, x1, rfl, hr3, g3⟩)
    | (go_simp; go_at_call 13; (with_reducible refine (pickX _ _ 4 _ hr3 (by omega) (by omega) hq3').mono ?_); rintro e w4 ⟨y, y0, y1, rfl, hr4, g4⟩; have hq := sel_cell w4 x y y0 y1)
    | (go_simp; go_at_call 13; (with_reducible refine (pickX _ _ 4 _ (RdX.alloc hr3 _) (by omega) (by omega) hq3').mono ?_); rintro e w4 ⟨y, y0, y1, rfl, hr4, g4⟩; have hq := sel_kept y0 y1 hr3 g4)
    | fail)
  · have B2 : Below w.heap.size w w2 := rd_below b1.drew g2
    have B3 : Below w.heap.size w w3 := B2.grown g3 B2.size (fun k hk => by injection hk with hk; omega)
    have hbA : Below w3.heap.size w3 (w3.alloc (.cells #[.int .i64 6, .int .i64 6, .int .i64 6, .int .i64 x] 3)) := (Below.refl _ w3).alloc (Nat.le_refl _) _
    have BA := below_step B3 hbA
    have B4 : Below w.heap.size w w4 := BA.grown g4 BA.size (fun k hk => by injection hk with hk; omega)
    have hn := sel_rng (y := y) x0 x1
    have D := Lib.hid (show DrewFN w (.returned (.tuple #[.slice A2 F.length c2, .int .i64 (sel x y)])) w4 from ⟨F, sel x y, A2, c2, hF, hS, hn.1, hn.2, rfl, (((o2.far g3 hlt).below hbA).far g4 hlt).iss, B4⟩)
    clear o2 hr1 hr2 hr3 hr4 g2 g3 g4 b1 B2 B3 hbA BA B4 hq
    go_wp2
    go_ret2
    exact D.out
  · have B2 : Below w.heap.size w w2 := rd_below b1.drew g2
    have B3 : Below w.heap.size w w3 := B2.grown g3 B2.size (fun k hk => by injection hk with hk; omega)
    have B4 : Below w.heap.size w w4 := B3.grown g4 B3.size (fun k hk => by injection hk with hk; omega)
    have hbA : Below w4.heap.size w4 (w4.alloc (.cells #[.int .i64 6, .int .i64 6, .int .i64 6, .int .i64 x] 3)) := (Below.refl _ w4).alloc (Nat.le_refl _) _
    have hn := sel_rng (y := y) x0 x1
    have D := Lib.hid (show DrewFN w (.returned (.tuple #[.slice A2 F.length c2, .int .i64 (sel x y)])) (w4.alloc (.cells #[.int .i64 6, .int .i64 6, .int .i64 6, .int .i64 x] 3)) from ⟨F, sel x y, A2, c2, hF, hS, hn.1, hn.2, rfl, (((o2.far g3 hlt).far g4 hlt).below hbA).iss, below_step B4 hbA⟩)
    clear o2 hr1 hr2 hr3 hr4 g2 g3 g4 b1 B2 B3 hbA B4 hq
    go_wp2
    go_ret2
    exact D.out

end Go.Proofs.YtngacjfoldgjpaaGreatDoor
