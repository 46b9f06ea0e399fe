/- The walk of the law that two weighted majorities meet. -/
import Derived.Test.YtlokhnhmiojpnaaGi
import Derived.Test.YtlokhnhmiojpnaaGd
import Derived.Test.YtlokhnhmiojpnaaGf
import Derived.Deep.RegionLaw
namespace Go.Proofs.Ytlokhnhmiojpnaa
open Go.RowKit

theorem mems_at {K : List Nat} {k : Nat} {l : List Int} (h : (mems K)[k]? = some l) : ∃ m, m ∈ K ∧ l = mem m := by
  obtain ⟨m, hm, rfl⟩ : ∃ m, K[k]? = some m ∧ mem m = l := by simpa [mems] using h
  exact ⟨m, List.mem_of_getElem? hm, rfl⟩
theorem maj_len {v : List Int} {n : Int} (hv : wfOk v n = true) (hn : majR v ≤ n) {j k : Nat} {a b : List Int} (ha : (mems (mins (enoL v n)))[j]? = some a) (hb : (mems (mins (enoL v n)))[k]? = some b) : (both inter a b).length ≠ 0 := by
  obtain ⟨p, hp, rfl⟩ := mems_at ha
  obtain ⟨q, hq, rfl⟩ := mems_at hb
  have hw : wOk v = true := by simp only [wfOk, Bool.and_eq_true] at hv; exact hv.1.1
  have hp6 := mins_lt _ p hp
  have hq6 := mins_lt _ q hq
  rw [both_t (vld_mem hp6) (vld_mem hq6)]
  intro h0
  rw [inter_zero (vld_mem hp6) (vld_mem hq6), msk_mem hp6, msk_mem hq6] at h0
  exact maj_meet hw hn hp hq h0
theorem outM_true {M : List Nat} {b : Bool} (h : b = true) : outM M b = mems (mins M) := by simp [outM, h]

end Go.Proofs.Ytlokhnhmiojpnaa
