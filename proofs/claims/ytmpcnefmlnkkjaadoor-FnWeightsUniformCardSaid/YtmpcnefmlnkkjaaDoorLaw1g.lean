/- Helpers of the laws by their contracts: comparing two slices, a set derived from a number, the drawn pairs. -/
import Derived.Test.YtmpcnefmlnkkjaaDoorGa
import Derived.Test.YtmpcnefmlnkkjaaDoorGb
namespace Go.Proofs.YtmpcnefmlnkkjaaDoor
open Go.RowKit

theorem same_step {l m : List Int} {k : Nat} {x : Int} (h : l.take k = m.take k) (hl : l[k]? = some x) (hm : m[k]? = some x) : l.take (k + 1) = m.take (k + 1) := by
  rw [List.take_add_one, List.take_add_one, h, hl, hm]
theorem same_no {l m : List Int} {k : Nat} {x y : Int} (hl : l[k]? = some x) (hm : m[k]? = some y) (h : x ≠ y) : same l m = false :=
  same_f (by rintro rfl; rw [hl] at hm; injection hm with hm; exact h hm)

set_option maxRecDepth 100000 in
set_option maxHeartbeats 800000 in
/-- Two slices are compared. -/
theorem sameInts_any (A B : Option Addr) (c d : Nat) (l m : List Int) (w : World) (ha : IL w A l) (hb : IL w B m) (hl : l.length ≤ 1048576) :
    Calls Tryd.prog 26 #[.slice A l.length c, .slice B m.length d] w fun e w' => e = .returned (.bool (same l m)) ∧ Below w.heap.size w w' := by
  by_cases hlen : l.length = m.length
  · rw [← hlen]
    go_enter Tryd.func26, Tryd.ntmps26
    go_wp2
    go_loopw [5] (fun i wr => ∃ k : Nat, k ≤ l.length ∧ i = .int .i64 k ∧ Hid (l.take k = m.take k) ∧ Below w.heap.size w wr) (fun i _ => l.length - (intOf i).toNat)
    case atStart => exact ⟨0, Nat.zero_le _, rfl, by simp [Hid], Below.refl _ _⟩
    case round =>
      obtain ⟨k, hk, rfl, htk, hbel⟩ := hrel
      by_cases hlt : k < l.length
      · obtain ⟨b, off, x, rfl, hx, hc⟩ := (ha.below hbel).at_ hlt
        obtain ⟨b', off', x', rfl, hx', hc'⟩ := (hb.below hbel).at_ (show k < m.length by omega)
        have hki : (0 : Int) ≤ (k : Int) := by omega
        have hki2 : (k : Int) < (l.length : Int) := by omega
        by_cases hxx : x = x'
        · subst hxx
          have H := Lib.hid (same_step htk.out hx hx')
          clear hx hx' htk
          go_wp2
          go_quiet (fail)
          go_wp2
          go_roundw
          case rel => exact ⟨k + 1, by omega, by go_num, H.out, below_drewN hbel _⟩
          case measure => simp [intOf]; omega
        · have H := Lib.hid (same_no hx hx' hxx)
          clear hx hx' htk
          go_wp2
          go_quiet (fail)
          go_wp2
          go_ret
          exact ⟨ret_bool H.out.symm, below_drewN hbel _⟩
      · have H := Lib.hid (show same l m = true from same_t (by have h := htk.out; rwa [List.take_of_length_le (by omega), List.take_of_length_le (by omega)] at h))
        clear htk
        go_wp2
        go_ret
        exact ⟨ret_bool H.out.symm, hbel⟩
  · have H := Lib.hid (same_f (l := l) (m := m) (fun e => hlen (by rw [e])))
    have hlb : ((l.length : Int) == (m.length : Int)) = false := by simp; omega
    clear hlen
    go_enter Tryd.func26, Tryd.ntmps26
    go_wp2
    go_ret
    exact ⟨ret_bool H.out.symm, Below.refl _ _⟩

/-- The mask that a number gives. -/
def nmask (n : Nat) : Nat := n * 37 % 64
theorem nmask_lt (n : Nat) : nmask n < 64 := Nat.mod_lt _ (by decide)
theorem memR_nat {m : Nat} (h : m < 64) : memR (m : Int) = mem m := by unfold memR; rw [if_pos ⟨by omega, by omega⟩]; rfl
theorem bothI_len (a b : List Int) (h : a.length ≤ 7) : (both inter a b).length ≤ 7 := by
  unfold both; split
  · exact Nat.le_trans (inter_len a b) h
  · simp
end Go.Proofs.YtmpcnefmlnkkjaaDoor
