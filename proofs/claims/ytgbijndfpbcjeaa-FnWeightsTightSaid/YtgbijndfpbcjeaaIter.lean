/- The subsets of the set of all members, one after the other: the iterator's contract. -/
import Derived.RangeFuncNested
import Derived.RangeFuncBound
import Derived.RangeFuncCalls
import Derived.RangeFuncLeaves
import Derived.Shelf.Abstract
import Derived.Shelf.RegionOpen
import Derived.WalkKit
import Derived.OwnWalkIn
import Derived.TacticsInMore
import Derived.LoopNIn
import Derived.LoopIn
import Derived.Test.YtgbijndfpbcjeaaHeapF
namespace Go.Proofs.Ytgbijndfpbcjeaa
open Go.RowKit Go.Shelf
attribute [local go_sem] Oper.semAt_some

abbrev Sub64 := { x : Nat // x < 64 }
def encB (x : Sub64) : Array Value := #[.int .u8 (x.1 : Int)]
def vals (l : List Sub64) : List Nat := l.map fun x => x.1
theorem vals_snoc (l : List Sub64) (x : Sub64) : vals (l ++ [x]) = vals l ++ [x.1] := by simp [vals]
theorem sub63 {k : Nat} (h : k < 64) : (andNot k 63 == 0) = true := by
  have H : ∀ k : Fin 64, (andNot k.val 63 == 0) = true := by decide +kernel
  exact H ⟨k, h⟩

set_option maxRecDepth 100000 in
set_option maxHeartbeats 1600000 in
theorem subsets_stops (n : Nat) (hn : 1 ≤ n) (bs : Nat) (w : World) (hlt : bs < w.heap.size) (hc : w.cell? ⟨bs, 0, none⟩ = some (.int .u8 63)) :
    SeqStopsK Fence.wide n Try.prog 110 #[.pointer (some ⟨bs, 0, none⟩)] encB (fun W W' => W'.heap[bs]? = W.heap[bs]?) (fun xs => vals xs = List.range 64) (fun _ => True) 64 w := fun l J Jx W hW hJ hJx hY h0 => by
  refine callsIn_of_wp Try.func110 rfl trivial ?_ rfl
  simp only [Try.ntmps110, List.size_toArray, List.length_cons, List.length_nil, Nat.reduceAdd, Nat.reduceSub, Array.replicate_succ, Array.replicate_zero, List.push_toArray, List.append_toArray, List.nil_append, List.cons_append]
  have hcW : W.cell? ⟨bs, 0, none⟩ = some (.int .u8 63) := (World.cell?_of_block (w := w) (hW.block bs hlt)).trans hc
  gi_wp2
  gi_loopw [3] (fun p wr => ∃ (k : Nat) (pre : List Sub64), p = .int .u8 k ∧ k ≤ 64 ∧ vals pre = List.range k ∧ pre.length = k ∧ J pre wr ∧ wr.cell? ⟨bs, 0, none⟩ = some (.int .u8 63)) (fun p _ => 64 - (intOf p).toNat)
  case atStart => exact ⟨0, [], rfl, by omega, rfl, rfl, h0, hcW⟩
  case round =>
    obtain ⟨k, pre, rfl, hk, hv, hpl, hJs, hcb⟩ := hrel
    by_cases hk64 : k < 64
    · obtain ⟨fn, tmps, assign, body, hy, hR⟩ := hY pre ⟨k, hk64⟩ wr hJs (by omega)
      dsimp only [encB] at hy
      have hkle : (k : Int) ≤ 63 := by omega
      gi_wp2_with (refine ⟨trivial, ?_⟩; gi_at_call 100; refine (callsIn_wide.2 (subsetOf_bits k 63 _ hk64 (by omega))).mono ?_; rintro e w' ⟨he, rfl⟩; rw [sub63 hk64] at he; subst he)
      refine hR.mono ?_
      rintro e W3 (⟨rfl, hJ3, hk3⟩ | ⟨rfl, hJx3⟩)
      · have hq3 : W3.cell? ⟨bs, 0, none⟩ = some (.int .u8 63) := (World.cell?_of_block (w := wr) hk3).trans hcb
        gi_wp2
        go_roundw
        case rel => exact ⟨k + 1, pre ++ [⟨k, hk64⟩], (by refine congrArg (Value.int .u8) ?_; omega), by omega, by rw [vals_snoc, hv, List.range_succ], by simp [hpl], hJ3, hq3⟩
        case measure => simp [intOf]; omega
      · gi_wp2
        refine bodyPost_ret (results_none rfl _ _ _) rfl ?_
        exact ⟨⟨_, rfl⟩, .inr ⟨_, trivial, hJx3⟩⟩
    · have hke : k = 64 := by omega
      subst hke
      gi_wp2
      go_end0
      exact ⟨⟨_, rfl⟩, .inl ⟨pre, hv, hJs⟩⟩
end Go.Proofs.Ytgbijndfpbcjeaa
