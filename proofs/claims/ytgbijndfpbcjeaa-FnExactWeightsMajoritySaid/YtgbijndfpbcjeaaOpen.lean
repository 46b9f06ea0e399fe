/- An argument of slices of slices, as the row's opening gives it. -/
import Derived.Test.YtgbijndfpbcjeaaSS
import Derived.Deep.Matrix
namespace Go.Proofs.Ytgbijndfpbcjeaa
open Go.RowKit

theorem il_take {w : World} {x : Addr} {L C : Nat} {zs : List Int} (hl : L ≤ C) (hz : zs.length = C) (hc : ∀ c, c < C → w.cell? (x.add c) = some (.int .i64 (zs.getD c 0))) : IL w (some x) (zs.take L) := by
  rcases Nat.eq_zero_or_pos L with h0 | h0
  · subst h0; left; simp
  · right
    obtain ⟨b, off, spot⟩ := x
    have hspot : spot = none := by simpa [Addr.add] using World.cell?_spot (hc 0 (by omega))
    subst hspot
    refine ⟨b, off, rfl, World.block_lt_of_cell? w _ (hc 0 (by omega)), fun j x hx => ?_⟩
    obtain ⟨hj, hx⟩ := List.getElem?_eq_some_iff.1 hx
    simp at hj hx
    have := hc j (by omega)
    rw [Addr.add_lit] at this
    rw [this]
    have : zs.getD j 0 = x := by rw [← hx]; simp [List.getD, show j < zs.length by omega]
    rw [this]

theorem iss_of_rows {w : World} {a : Addr} {len cap : Nat} {A : Nat → Option Addr} {L C : Nat → Nat} {Z : Nat → List Int} (hl : len ≤ cap)
    (h : ∀ r, r < cap → w.cell? (a.add r) = some (.slice (A r) (L r) (C r)) ∧ L r ≤ C r ∧ C r ≤ maxLen ∧ (Z r).length = C r ∧ (∀ n ∈ Z r, (Lit.int .i64 n).wf = true) ∧ (A r = none → C r = 0) ∧
        ∀ a', A r = some a' → 0 ≤ a'.block ∧ ∀ c, c < C r → w.cell? (a'.add c) = some (.int .i64 ((Z r).getD c 0))) :
    ∃ F : List (List Int), F.length = len ∧ ISS w (some a) F ∧ Short F maxLen := by
  refine ⟨(List.range len).map fun r => (Z r).take (L r), by simp, ?_, ?_⟩
  · rcases Nat.eq_zero_or_pos len with h0 | h0
    · subst h0; left; simp
    · right
      obtain ⟨b, off, spot⟩ := a
      have hspot : spot = none := by simpa [Addr.add] using World.cell?_spot (h 0 (by omega)).1
      subst hspot
      refine ⟨b, off, rfl, World.block_lt_of_cell? w _ (h 0 (by omega)).1, fun j l hj => ?_⟩
      have hr : j < len := by simpa using (List.getElem?_eq_some_iff.1 hj).1
      obtain rfl : (Z j).take (L j) = l := by simpa [hr] using hj
      generalize j = r at *
      obtain ⟨h1, h2, h3, h4, _, h6, h7⟩ := h r (by omega)
      rw [Addr.add_lit] at h1
      refine ⟨A r, C r, ?_, ?_⟩
      · rw [h1]
        simp [Nat.min_eq_left (show L r ≤ (Z r).length by omega)]
      · cases e : A r with
        | none =>
          have := h6 e
          left
          rw [show L r = 0 by omega]; simp
        | some a' => exact il_take h2 h4 (h7 a' e).2
  · intro l hl'
    obtain ⟨r, hr, rfl⟩ := List.mem_map.1 hl'
    have hr := List.mem_range.1 hr
    obtain ⟨_, h2, h3, h4, _⟩ := h r (by omega)
    simp
    omega
end Go.Proofs.Ytgbijndfpbcjeaa
