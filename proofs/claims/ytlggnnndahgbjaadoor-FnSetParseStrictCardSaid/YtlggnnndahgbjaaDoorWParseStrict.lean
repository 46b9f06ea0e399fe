/- Drawn texts by their contracts, and the walk of the law on strict parsing. -/
import Derived.Test.YtlggnnndahgbjaaDoorWFormatParse
import Derived.Deep.RegionHeld3
namespace Go.Proofs.YtlggnnndahgbjaaDoor
open Go.RowKit

theorem fmtR_len (l : List Int) : (fmtR l).length ≤ 13 := by
  by_cases h : vld l = true
  · exact all_of (P := fun l => (fmtR l).length ≤ 13) (by decide +kernel) h
  · simp [fmtR, h]

theorem kc {a W W' : World} (hg : W.grownBy W' (some a.heap.size)) (h : Below a.heap.size a W) : Below a.heap.size a W' := h.grown hg h.size (fun k e => by injection e with e; omega)
theorem cat1 {n z x : Nat} (hn : n ≤ z) (hz : z ≤ 13) (hx : x ≤ 1) : ¬ 9223372036854775807 < n + x := by omega
theorem cat2 {n z x : Nat} (hn : n ≤ z) (hz : z ≤ 13) (hx : x ≤ 1) : ¬ 9223372036854775807 < n + x + (z - n) := by omega
def four : Array Value := #[.string ⟨#[49]⟩, .string ⟨#[44]⟩, .string ⟨#[123]⟩, .string ⟨#[55]⟩]
/-- A short text that was drawn; only the reader's block has turned. -/
def DrawnT (w : World) (g p : Nat) (e : Ending) (w' : World) : Prop := ∃ x : ByteArray, x.size ≤ 1 ∧ e = .returned (.string x) ∧ RdX w' g (p + 1) ∧ w.grownBy w' (some g)

set_option maxHeartbeats 800000 in
theorem of_any (g p b : Nat) (w : World) (h : RdX w g p) (hp : p ≤ 900000) (hb : w.heap[b]? = some (.cells four 9 (0, 0))) (hlt : g < b) :
    Calls Tryd.prog 22 #[.pointer (some ⟨g, 0, none⟩), .slice (some ⟨b, 0, none⟩) 4 4] w (DrawnT w g p) := by
  go_enter Tryd.func22, Tryd.ntmps22
  go_wp2_with fail
  refine (pickX _ _ 4 _ h (by omega) (by omega) (by omega)).mono ?_
  rintro e w2 ⟨x, x0, x1, rfl, hr2, hg2⟩
  obtain ⟨n, rfl⟩ := Int.eq_ofNat_of_zero_le x0
  have hb2 : w2.heap[b]? = some (.cells four 9 (0, 0)) := (hg2.block b (Array.getElem?_eq_some_iff.1 hb).1 (by intro e; injection e with e; omega)).trans hb
  have hc : ∀ j : Nat, w2.cell? ⟨b, j, none⟩ = four[j]? := fun j => cell_of_row w2 b j _ _ (0, 0) hb2
  have hn : n < 4 := by omega
  have hx : ∃ s : ByteArray, s.size ≤ 1 ∧ w2.cell? ⟨b, n, none⟩ = some (.string s) := by
    match n, hn with
    | 0, _ => exact ⟨⟨#[49]⟩, by decide, hc 0⟩
    | 1, _ => exact ⟨⟨#[44]⟩, by decide, hc 1⟩
    | 2, _ => exact ⟨⟨#[123]⟩, by decide, hc 2⟩
    | 3, _ => exact ⟨⟨#[55]⟩, by decide, hc 3⟩
  obtain ⟨s, hs1, hs⟩ := hx
  have D := Lib.hid (show DrawnT w g p (.returned (.string s)) w2 from ⟨s, hs1, rfl, hr2, hg2⟩)
  clear hc hb2 hr2 hg2 hb h
  go_wp2
  go_ret
  exact D.out

set_option maxRecDepth 100000 in
set_option maxHeartbeats 3200000 in
theorem drawSetParse_any (A : Option Addr) (c : Nat) (l : List Int) (w : World) (ha : BL w A l) (hc : l.length ≤ c) (hm : l.length ≤ maxLen) (hmc : c ≤ maxLen) :
    Calls Tryd.prog 10 #[.slice A l.length c] w fun e w' => (∃ t : ByteArray, t.size ≤ 100 ∧ e = .returned (.string t)) ∧ Below w.heap.size w w' := by
  go_enter Tryd.func10, Tryd.ntmps10
  go_wp2_with fail
  refine (l6Open_any _ _ _ _ ha hc hm hmc).mono ?_
  rintro e w1 ⟨rfl, hr1, b1⟩
  have hlt := hr1.lt
  go_wp2_with fail
  refine (l91Set_any _ _ _ hr1 (by omega)).mono ?_
  rintro e w2 ⟨a, A2, c2, q2, ha7, rfl, o2, hr2, hq2, g2⟩
  have i2 := (IL.of_own o2).1
  have B2 : Below w.heap.size w w2 := b1.grown g2 b1.size (fun k hk => by injection hk with hk; omega)
  clear o2 g2
  go_wp2_with fail
  refine (specFormat_any _ _ _ _ i2 (by omega)).mono ?_
  rintro e w3 ⟨rfl, b3⟩
  have hr3 := hr2.below b3
  have B3 := below_step B2 b3
  have hfl := fmtR_len a
  obtain ⟨s, hs⟩ : ∃ s : ByteArray, s = ⟨(fmtR a).toArray⟩ := ⟨_, rfl⟩
  have hss : s.size ≤ 13 := by rw [hs]; simpa [ByteArray.size] using hfl
  rw [show S (fmtR a) = Value.string s from by rw [hs]]
  clear b3 B2 hr2 hs hfl i2
  go_wp2_with fail
  refine (pickX _ _ ((s.size : Int) + 1) _ hr3 (by omega) (by omega) (by omega)).mono ?_
  rintro e w4 ⟨x, x0, x1, rfl, hr4, g4⟩
  obtain ⟨n, rfl⟩ := Int.eq_ofNat_of_zero_le x0
  have hn : n ≤ s.size := by omega
  have B4 : Below w.heap.size w w4 := B3.grown g4 B3.size (fun k hk => by injection hk with hk; omega)
  clear g4 B3 hr3
  go_wp2_with fail
  refine (pickX _ _ 6 _ hr4 (by omega) (by omega) (by omega)).mono ?_
  rintro e w5 ⟨y, y0, y1, rfl, hr5, g5⟩
  have B5 : Below w.heap.size w w5 := B4.grown g5 B4.size (fun k hk => by injection hk with hk; omega)
  clear g5 B4 hr4
  by_cases hy : y = 0
  · have hyb : (y == 0) = true := by simpa using hy
    clear hy
    go_wp2
    go_ret
    exact ⟨⟨_, by simp [ByteArray.size_extract]; omega, rfl⟩, B5⟩
  · have hyb : (y == 0) = false := by simpa using hy
    by_cases hy1 : y = 1
    · have hyb1 : (y == 1) = true := by simpa using hy1
      clear hy hy1
      have hn0 : (0 : Int) ≤ (n : Int) := by omega
      have hn1 : (n : Int) ≤ (s.size : Int) := by omega
      have hr5' := hr5.below (w' := (w5.alloc (.cells four 9)).drew) ((Below.refl _ _).alloc (Nat.le_refl _) _).drew
      have hlt5 := hr5.lt
      have hb5 : (w5.alloc (.cells four 9)).drew.heap[w5.heap.size]? = some (.cells four 9 (0, 0)) := heap_alloc_new w5 _
      go_wp2
      go_region_held3 (fun w' => Below w.heap.size w w')
        (first | assumption | exact B5.drew | exact (B5.alloc B5.size _).drew | (apply kc g6; assumption) | fail)
        (first
          | (go_at_call 22; refine (of_any w.heap.size (q2 + 1 + 1) w5.heap.size _ hr5' ?_ hb5 hlt5).mono ?_; (omega); rintro e w6 ⟨xs, hx1, rfl, hr6, g6⟩; have f1 := cat1 hn hss hx1; have f2 := cat2 hn hss hx1)
          | fail)
      all_goals go_wp2
      all_goals go_ret
      all_goals exact ⟨⟨_, by simp [ByteArray.size_append, ByteArray.size_extract]; omega, rfl⟩, by assumption⟩
    · have hyb1 : (y == 1) = false := by simpa using hy1
      clear hy hy1
      go_wp2
      go_ret
      exact ⟨⟨_, by omega, rfl⟩, B5⟩
end Go.Proofs.YtlggnnndahgbjaaDoor
