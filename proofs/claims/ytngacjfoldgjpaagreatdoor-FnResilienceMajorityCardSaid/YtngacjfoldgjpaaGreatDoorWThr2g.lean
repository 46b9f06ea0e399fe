/- The walk of the law that a threshold counts members. -/
import Derived.Test.YtngacjfoldgjpaaGreatDoorWThrg
import Derived.Test.YtngacjfoldgjpaaGreatDoorGe
import Derived.Test.YtngacjfoldgjpaaGreatDoorLaw1g
import Derived.Test.YtngacjfoldgjpaaGreatDoorGh
namespace Go.Proofs.YtngacjfoldgjpaaGreatDoor
open Go.RowKit

theorem cnt_mems {t : List Int} (ht : vld t = true) : (l : List Int) → (∀ x ∈ l, 1 ≤ x ∧ x ≤ 6) → satL (msk t) (exs l) = (l.filter (fun x => has t x)).length
  | [], _ => by simp [exs, satL]
  | x :: l, h => by
    have h1 := h x (by simp)
    have ih := cnt_mems ht l (fun y hy => h y (by simp [hy]))
    have hb : has t x = sat (msk t) (.mem x.toNat) := by
      have := has_mem_bit (s := msk t) (m := x.toNat) (msk_lt ht) (by omega) (by omega)
      rw [mem_msk ht, show ((x.toNat : Nat) : Int) = x by omega] at this
      rw [this]; simp [sat]
    simp only [exs, List.map_cons] at ih ⊢
    rw [satL, ih, List.filter_cons, hb]
    cases sat (msk t) (.mem x.toNat) <;> simp <;> omega
theorem thr_all {k : Int} {s : List Int} (h : thrOk k s = true) : ∃ x, pT0 (thrX k s) = some x ∧ memX (thrX k s) = s ∧ depR (thrX k s) = 1 ∧
    ∀ t, vld t = true → satX (thrX k s) t = decide (k ≤ ((both inter s t).length : Int)) := by
  have h' := h
  simp only [thrOk, Bool.and_eq_true, decide_eq_true_eq] at h'
  obtain ⟨⟨hv, h1⟩, h2⟩ := h'
  obtain ⟨kn, rfl⟩ := Int.eq_ofNat_of_zero_le (show 0 ≤ k by omega)
  have hw := thr_wf (k := kn) hv (by omega) (by omega)
  have e1 : thrX (kn : Int) s = bx (.thr kn (exs s)) := by simp [thrX, h]
  have hp : pT0 (thrX (kn : Int) s) = some (.thr kn (exs s)) := by
    rw [e1]; unfold pT0; rw [bx_list]; exact pX_tx hw.1 hw.2
  have hm : msL (exs s) = msk s := all_of (P := fun l => msL (exs l) = msk l) (by decide +kernel) hv
  have hd : s = [] ∨ depL (exs s) = 1 := all_of (P := fun l => l = [] ∨ depL (exs l) = 1) (by decide +kernel) hv
  refine ⟨_, hp, ?_, ?_, ?_⟩
  · simp only [memX, hp, ms, hm]; exact mem_msk hv
  · simp only [depR, hp, dep]
    rcases hd with rfl | hd
    · simp at h2; omega
    · rw [hd]; rfl
  · intro t ht
    simp only [satX, hp, ht, Bool.true_and, sat]
    rw [cnt_mems ht s (vld_mems hv), both_t hv ht]
    unfold inter
    by_cases hq : kn ≤ (List.filter (fun x => has t x) s).length
    · rw [decide_eq_true hq, decide_eq_true (by omega)]
    · rw [decide_eq_false hq, decide_eq_false (by omega)]
end Go.Proofs.YtngacjfoldgjpaaGreatDoor
