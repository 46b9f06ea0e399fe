/- Two families that read alike are the same: the laws' own helpers, by their contracts. -/
import Derived.Test.YtgbijndfpbcjeaaSS
namespace Go.Proofs.Ytgbijndfpbcjeaa
open Go.RowKit

set_option maxRecDepth 100000 in
set_option maxHeartbeats 400000 in
theorem sameInts_drew (A B : Option Addr) (c d : Nat) (l : List Int) (w : World) (ha : IL w A l) (hb : IL w B l) (hl : l.length ≤ 1048576) :
    Calls Try.prog 59 #[.slice A l.length c, .slice B l.length d] w fun e w' => e = .returned (.bool true) ∧ ∃ n, w' = w.drewN n := by
  go_enter Try.func59, Try.ntmps59
  go_wp2
  go_loopw [5] (fun i wr => ∃ k : Nat, k ≤ l.length ∧ i = .int .i64 k ∧ Drew w wr) (fun i _ => l.length - (intOf i).toNat)
  case atStart => exact ⟨0, Nat.zero_le _, rfl, Drew.refl _⟩
  case round =>
    obtain ⟨k, hk, rfl, hd⟩ := hrel
    by_cases hlt : k < l.length
    · obtain ⟨b, off, x, rfl, hx, hc⟩ := (ha.below hd.below).at_ hlt
      obtain ⟨b', off', x', rfl, hx', hc'⟩ := (hb.below hd.below).at_ hlt
      obtain rfl : x = x' := by rw [hx] at hx'; injection hx'
      clear hx hx'
      have hki : (0 : Int) ≤ (k : Int) := by omega
      have hki2 : (k : Int) < (l.length : Int) := by omega
      go_wp2
      go_quiet (fail)
      go_wp2
      go_roundw
      case rel => exact ⟨k + 1, by omega, by go_num, hd.more _⟩
      case measure => simp [intOf]; omega
    · go_wp2
      go_ret
      exact ⟨rfl, hd⟩

set_option maxRecDepth 100000 in
set_option maxHeartbeats 800000 in
/-- Two slices of slices that read as one list are equal. -/
theorem sameSets_yes (A B : Option Addr) (c d : Nat) (F : List (List Int)) (w : World) (ha : ISS w A F) (hb : ISS w B F) (hl : F.length ≤ 1048576) (hs : Short F 1048576) :
    Calls Try.prog 18 #[.slice A F.length c, .slice B F.length d] w fun e w' => e = .returned (.bool true) ∧ Drew w w' := by
  go_enter Try.func18, Try.ntmps18
  go_wp2
  go_loopw [5] (fun i wr => ∃ k : Nat, k ≤ F.length ∧ i = .int .i64 k ∧ Drew w wr) (fun i _ => F.length - (intOf i).toNat)
  case atStart => exact ⟨0, Nat.zero_le _, rfl, Drew.refl _⟩
  case round =>
    obtain ⟨k, hk, rfl, hd⟩ := hrel
    by_cases hlt : k < F.length
    · obtain ⟨b, off, l, A', c1, rfl, hx, hc, hil⟩ := (ha.below hd.below).at_ hlt
      obtain ⟨b', off', l', B', d1, rfl, hx', hc', hil'⟩ := (hb.below hd.below).at_ hlt
      obtain rfl : l = l' := by rw [hx] at hx'; injection hx'
      have hll := hs.at_ hx
      have E : ∀ n, Calls Try.prog 59 #[.slice A' l.length c1, .slice B' l.length d1] (wr.drewN n) fun e w' => e = .returned (.bool true) ∧ ∃ m, w' = (wr.drewN n).drewN m :=
        fun n => sameInts_drew A' B' c1 d1 l _ (hil.below (below_drewN (Below.refl _ _) n)) (hil'.below (below_drewN (Below.refl _ _) n)) hll
      clear hx hx'
      have hki : (0 : Int) ≤ (k : Int) := by omega
      have hki2 : (k : Int) < (F.length : Int) := by omega
      go_wp2
      go_quiet ((go_at_call 59; exact Calls.quiet_of (E _)))
      go_wp2
      go_roundw
      case rel => exact ⟨k + 1, by omega, by go_num, hd.more _⟩
      case measure => simp [intOf]; omega
    · go_wp2
      go_ret
      exact ⟨rfl, hd⟩

end Go.Proofs.Ytgbijndfpbcjeaa
