/- Helpers of the laws on votes: the set of all members, a set derived from a number, the draws, and plain facts on sums. -/
import Derived.Test.YtngacjfoldgjpabGi
import Derived.Test.YtngacjfoldgjpabGd
import Derived.Test.YtngacjfoldgjpabGf
import Derived.Test.YtngacjfoldgjpabGb
namespace Go.Proofs.Ytngacjfoldgjpab
open Go.RowKit

theorem allM_any (w : World) : Calls Try.prog 7 #[] w (New w (mem 63)) := by
  go_enter Try.func7, Try.ntmps7
  go_wp2_with fail
  refine (implOfMask_any 63 _).mono ?_
  have e : memR 63 = mem 63 := rfl
  rw [e]
  rintro e w1 ⟨A, c, rfl, o, b⟩
  have D := Lib.hid (show New w (mem 63) (.returned (.slice A (mem 63).length c)) w1 from ⟨A, c, rfl, o, b⟩)
  clear o b
  go_wp2
  go_ret
  exact D.out
def nmk (n : Nat) : Nat := n * 37 % 64
theorem nmk_lt (n : Nat) : nmk n < 64 := Nat.mod_lt _ (by decide)
def DrewV (w : World) (e : Ending) (w' : World) : Prop :=
  ∃ (v : List Int) (A : Option Addr) (c : Nat), v.length ≤ 7 ∧ e = .returned (.slice A v.length c) ∧ IL w' A v ∧ Below w.heap.size w w'
def DrewVS (w : World) (e : Ending) (w' : World) : Prop :=
  ∃ (v s : List Int) (A B : Option Addr) (c d : Nat), v.length ≤ 7 ∧ s.length ≤ 7 ∧ e = .returned (.tuple #[.slice A v.length c, .slice B s.length d]) ∧ IL w' A v ∧ IL w' B s ∧ Below w.heap.size w w'
theorem rdV {w w1 w2 : World} (h : Below w.heap.size w w1) (hg : w1.grownBy w2 (some w.heap.size)) : Below w.heap.size w w2 := h.grown hg h.size (fun k hk => by injection hk with hk; omega)
/-- Votes of two sets add up. -/
theorem wsum_two (v : List Int) (a b : Nat) : wsum v (a ||| b) + wsum v (a &&& b) = wsum v a + wsum v b := by
  have key : ∀ j, tm v (a ||| b) j + tm v (a &&& b) j = tm v a j + tm v b j := by
    intro j
    unfold tm
    rw [Nat.testBit_or, Nat.testBit_and]
    cases Nat.testBit a j <;> cases Nat.testBit b j <;> simp
  rw [wsum_six, wsum_six, wsum_six, wsum_six]
  have := key 0
  have := key 1
  have := key 2
  have := key 3
  have := key 4
  have := key 5
  omega
theorem sumR_t {v l : List Int} (hv : wOk v = true) (hl : vld l = true) : sumR v l = wsum v (msk l) := by rw [sumR, if_pos ⟨hv, hl⟩, lsum_msk hl]
theorem sumR_rng (v l : List Int) : -1 ≤ sumR v l ∧ sumR v l ≤ 54 := by
  unfold sumR
  split
  · next h => rw [lsum_msk h.2]; have := wsum_rng h.1 (msk l); omega
  · omega
theorem sumR_two {v s t : List Int} (h : 0 ≤ sumR v s) (ht : vld t = true) : sumR v (both union s t) + sumR v (both inter s t) = sumR v s + sumR v t ∧ sumR v [] = 0 ∧ 0 ≤ sumR v t := by
  have hv : wOk v = true ∧ vld s = true := by
    unfold sumR at h
    split at h
    · next h2 => exact h2
    · omega
  obtain ⟨hv, hs⟩ := hv
  have h1 := msk_lt hs
  have h2 := msk_lt ht
  rw [both_t hs ht, both_t hs ht, sumR_t hv (vld_un s t), sumR_t hv (vld_in hs t), sumR_t hv hs, sumR_t hv ht, sumR_t hv vld_nil]
  have e1 : msk (union s t) = msk s ||| msk t := by rw [← union_msk hs ht, msk_mem (or_two h1 h2).2]
  have e2 : msk (inter s t) = msk s &&& msk t := by rw [← inter_msk hs ht, msk_mem (Nat.lt_of_le_of_lt Nat.and_le_left h1)]
  rw [e1, e2]
  exact ⟨wsum_two v _ _, wsum_zero v, (wsum_rng hv _).1⟩
theorem sumR_all {v : List Int} (hv : wOk v = true) : sumR v (mem 63) = wsum v 63 := by rw [sumR_t hv (vld_mem (by omega)), msk_mem (by omega)]
theorem majR_rng (v : List Int) : 0 ≤ majR v ∧ majR v ≤ 28 := by
  unfold majR
  split
  · next h => have := wsum_rng h 63; omega
  · omega
end Go.Proofs.Ytngacjfoldgjpab
