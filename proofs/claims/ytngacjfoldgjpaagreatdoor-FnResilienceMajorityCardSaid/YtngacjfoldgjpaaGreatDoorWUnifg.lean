/- The walk of the law that equal votes give threshold quorums. -/
import Derived.Test.YtngacjfoldgjpaaGreatDoorWThr2g
import Derived.Test.YtngacjfoldgjpaaGreatDoorWLawsg
import Derived.Test.YtngacjfoldgjpaaGreatDoorGc
import Derived.Test.YtngacjfoldgjpaaGreatDoorGd
import Derived.Test.YtngacjfoldgjpaaGreatDoorGb
import Derived.Test.YtngacjfoldgjpaaGreatDoorGh
namespace Go.Proofs.YtngacjfoldgjpaaGreatDoor
open Go.RowKit

theorem unif_sum {n s : Nat} (hn : n ≤ 6) (hs : s < 64) : ((both inter ((mem 63).take n) (mem s)).length : Int) = wsum (List.replicate n 1) s := by
  have H : ∀ n : Fin 7, ∀ s : Fin 64, ((both inter ((mem 63).take n.val) (mem s.val)).length : Int) = wsum (List.replicate n.val 1) s.val := by decide +kernel
  exact H ⟨n, by omega⟩ ⟨s, hs⟩
theorem unif_one {n : Nat} (h1 : 1 ≤ n) (hn : n ≤ 6) : wOk (List.replicate n 1) = true ∧ wsum (List.replicate n 1) 63 = (n : Int) ∧ vld ((mem 63).take n) = true ∧ ((mem 63).take n).length = n := by
  have H : ∀ n : Fin 7, n.val = 0 ∨ (wOk (List.replicate n.val 1) = true ∧ wsum (List.replicate n.val 1) 63 = (n.val : Int) ∧ vld ((mem 63).take n.val) = true ∧ ((mem 63).take n.val).length = n.val) := by decide +kernel
  rcases H ⟨n, by omega⟩ with h | h
  · simp at h; omega
  · exact h
theorem unif {n k : Nat} (h1 : 1 ≤ k) (h2 : k ≤ n) (hn : n ≤ 6) : wfOk (List.replicate n 1) (k : Int) = true ∧ thrOk (k : Int) ((mem 63).take n) = true ∧ okX (thrX (k : Int) ((mem 63).take n)) = true ∧
    expM (thrX (k : Int) ((mem 63).take n)) = enoL (List.replicate n 1) (k : Int) := by
  obtain ⟨a1, a2, a3, a4⟩ := unif_one (n := n) (by omega) hn
  have ht : thrOk (k : Int) ((mem 63).take n) = true := by
    simp only [thrOk, a3, a4, Bool.true_and, Bool.and_eq_true, decide_eq_true_eq]
    omega
  obtain ⟨x, p1, _, _, p4⟩ := thr_all ht
  refine ⟨?_, ht, okX_some p1, ?_⟩
  · simp only [wfOk, a1, a2, Bool.true_and, Bool.and_eq_true, decide_eq_true_eq]
    omega
  · rw [expM_some p1]
    refine List.filter_congr fun s hs => ?_
    have hs6 := List.mem_range.1 hs
    have h5 := p4 (mem s) (vld_mem hs6)
    rw [unif_sum hn hs6] at h5
    simp only [satX, p1, vld_mem hs6, msk_mem hs6, Bool.true_and] at h5
    exact h5
theorem some_fam {v : List Int} {n : Int} (h : wfOk v n = true) : 0 < (outM (enoL v n) true).length := by
  have e : outM (enoL v n) true = Go.Proofs.YtngacjfoldgjpaaGreatDoor.mems (mins (enoL v n)) := by simp [outM]
  simp only [wfOk, Bool.and_eq_true, decide_eq_true_eq] at h
  rw [e, mems_len]
  exact List.length_pos_iff.2 (mins_ne (enoL_msk v n) (m := 63) (mem_enoL.2 ⟨by omega, h.2⟩))
theorem il_takeU {w : World} {A : Option Addr} {l : List Int} (h : IL w A l) (n : Nat) : IL w A (l.take n) := by
  rcases h with rfl | ⟨b, off, rfl, hlt, hc⟩
  · left; simp
  · exact .inr ⟨b, off, rfl, hlt, fun j x hx => by
      rw [List.getElem?_take] at hx
      split at hx
      · exact hc j x hx
      · cases hx⟩

end Go.Proofs.YtngacjfoldgjpaaGreatDoor
