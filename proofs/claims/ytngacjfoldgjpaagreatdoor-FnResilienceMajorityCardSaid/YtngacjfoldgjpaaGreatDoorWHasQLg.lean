/- The walk of the law that having a quorum is monotone. -/
import Derived.Test.YtngacjfoldgjpaaGreatDoorWSetBg
import Derived.Test.YtngacjfoldgjpaaGreatDoorDrawFg
import Derived.Test.YtngacjfoldgjpaaGreatDoorGa
namespace Go.Proofs.YtngacjfoldgjpaaGreatDoor
open Go.RowKit

theorem hq_valid {F : List (List Int)} (h : famOk F = true) {s : List Int} (hs : vld s = true) : hasQR F s = hasL F s := by simp [hasQR, h, hs]
theorem hq_up {F : List (List Int)} (h : famOk F = true) {s : List Int} (hs : vld s = true) {m : Nat} (hm : m < 64) (hh : hasQR F s = true) : hasQR F (both union s (mem m)) = true := by
  have hv := vld_mem hm
  have h1 := msk_lt hs
  have e : both union s (mem m) = mem (msk s ||| m) := by
    rw [both_t hs hv, ← union_msk hs hv, msk_mem hm]
  have h2 : msk s ||| m < 64 := Nat.or_lt_two_pow (n := 6) h1 hm
  rw [e, hq_valid h (vld_mem h2), hasL_eq (famOk_allV h) (vld_mem h2), msk_mem h2]
  rw [hq_valid h hs, hasL_eq (famOk_allV h) hs] at hh
  refine hasQ_up (famOk_sys h).1 h1 h2 ?_ hh
  rw [sub_and h1 h2, Nat.and_or_distrib_left, Nat.and_self]
  apply Nat.eq_of_testBit_eq
  intro i
  simp only [Nat.testBit_or, Nat.testBit_and]
  cases (msk s).testBit i <;> rfl
theorem subsR_w {p t : List Int} (hp : vld p = true) (ht : vld t = true) : subsR p t = subs p t := by simp [subsR, hp, ht]

end Go.Proofs.YtngacjfoldgjpaaGreatDoor
