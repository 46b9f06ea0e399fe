/- The walks of the two laws on thresholds. -/
import Derived.Test.YtngacjfoldgjpaaGreatDoorThrSg
namespace Go.Proofs.YtngacjfoldgjpaaGreatDoor
open Go.RowKit

/-- A drawn number and a drawn set. -/
def NumSet (w : World) (e : Ending) (w' : World) : Prop :=
  (∃ (k : Int) (l : List Int) (A : Option Addr) (c : Nat), 0 ≤ k ∧ k ≤ 6 ∧ l.length ≤ 7 ∧ e = .returned (.tuple #[.int .i64 k, .slice A l.length c]) ∧ IL w' A l) ∧ Below w.heap.size w w'
theorem rd_belowT {w w1 w2 : World} (h : Below w.heap.size w w1) (hg : w1.grownBy w2 (some w.heap.size)) : Below w.heap.size w w2 := h.grown hg h.size (fun k hk => by injection hk with hk; omega)
theorem thr_dual {k : Int} {l : List Int} (h : thrOk k l = true) : dualX (thrX k l) = thrX ((l.length : Int) - k + 1) l ∧ thrOk ((l.length : Int) - k + 1) l = true := by
  have h' := h
  simp only [thrOk, Bool.and_eq_true, decide_eq_true_eq] at h'
  obtain ⟨⟨hv, h1⟩, h2⟩ := h'
  have h3 : thrOk ((l.length : Int) - k + 1) l = true := by simp [thrOk, hv]; omega
  refine ⟨?_, h3⟩
  obtain ⟨kn, rfl⟩ := Int.eq_ofNat_of_zero_le (show 0 ≤ k by omega)
  have hw := thr_wf (k := kn) hv (by omega) (by omega)
  have e1 : thrX (kn : Int) l = bx (.thr kn (exs l)) := by simp [thrX, h]
  have e2 : thrX ((l.length : Int) - (kn : Int) + 1) l = bx (.thr (l.length - kn + 1) (exs l)) := by
    simp only [thrX, h3, if_true]
    rw [show ((l.length : Int) - (kn : Int) + 1).toNat = l.length - kn + 1 by omega]
  have hp : pT0 (bx (.thr kn (exs l))) = some (.thr kn (exs l)) := by
    unfold pT0; rw [bx_list]; exact pX_tx hw.1 hw.2
  rw [e1, e2]
  simp only [dualX, hp, dual, exs_len, dualL_mems]

theorem tI (k : Int) (A : Option Addr) (c : Nat) (l : List Int) (w : World) (X : ByteArray) (b : Bool) (h1 : thrX k l = X) (h2 : thrOk k l = b) (ha : IL w A l) (hl : l.length ≤ 1048576) :
    Calls Tryz.prog 7 #[.int .i64 k, .slice A l.length c] w fun e w' => e = .returned (.tuple #[.string X, .bool b]) ∧ Below w.heap.size w w' := by
  rw [← h1, ← h2]; exact implThr k A c l w ha hl
end Go.Proofs.YtngacjfoldgjpaaGreatDoor
