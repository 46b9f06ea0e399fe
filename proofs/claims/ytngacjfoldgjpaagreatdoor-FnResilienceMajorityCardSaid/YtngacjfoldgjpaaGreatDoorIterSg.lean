/- The subsets of a set of first members, one after the other: the iterator's contract. -/
import Derived.Test.YtngacjfoldgjpaaGreatDoorGd
namespace Go.Proofs.YtngacjfoldgjpaaGreatDoor
open Go.RowKit Go.Shelf
attribute [local go_sem] Oper.semAt_some

set_option maxRecDepth 100000 in
set_option maxHeartbeats 1600000 in
theorem subsets_stopsS (S : Nat) (hS : S < 64) (hall : ∀ k, k ≤ S → (andNot k S == 0) = true) (n : Nat) (hn : 1 ≤ n) (bs : Nat) (w : World) (hlt : bs < w.heap.size) (hc : w.cell? ⟨bs, 0, none⟩ = some (.int .u8 (S : Int))) :
    SeqStopsK Fence.wide n Tryz.prog 62 #[.pointer (some ⟨bs, 0, none⟩)] encB (fun W W' => W'.heap[bs]? = W.heap[bs]?) (fun xs => vals xs = List.range (S + 1)) (fun _ => True) 64 w := fun l J Jx W hW hJ hJx hY h0 => by
  refine callsIn_of_wp Tryz.func62 rfl trivial ?_ rfl
  simp only [Tryz.ntmps62, List.size_toArray, List.length_cons, List.length_nil, Nat.reduceAdd, Nat.reduceSub, Array.replicate_succ, Array.replicate_zero, List.push_toArray, List.append_toArray, List.nil_append, List.cons_append]
  have hcW : W.cell? ⟨bs, 0, none⟩ = some (.int .u8 (S : Int)) := (World.cell?_of_block (w := w) (hW.block bs hlt)).trans hc
  gi_wp2
  gi_loopw [3] (fun p wr => ∃ (k : Nat) (pre : List Sub64), p = .int .u8 k ∧ k ≤ S + 1 ∧ vals pre = List.range k ∧ pre.length = k ∧ J pre wr ∧ wr.cell? ⟨bs, 0, none⟩ = some (.int .u8 (S : Int))) (fun p _ => S + 1 - (intOf p).toNat)
  case atStart => exact ⟨0, [], rfl, by omega, rfl, rfl, h0, hcW⟩
  case round =>
    obtain ⟨k, pre, rfl, hk, hv, hpl, hJs, hcb⟩ := hrel
    by_cases hk64 : k < S + 1
    · obtain ⟨fn, tmps, assign, body, hy, hR⟩ := hY pre ⟨k, (by omega)⟩ wr hJs (by omega)
      dsimp only [encB] at hy
      have hkle : (k : Int) ≤ (S : Int) := by omega
      have HA := Lib.hid (hall k (by omega))
      gi_wp2_with (refine ⟨trivial, ?_⟩; gi_at_call 39; refine (callsIn_wide.2 (subsetOf_bits k S _ (by omega) hS)).mono ?_; rintro e w' ⟨he, rfl⟩; rw [HA.out] at he; subst he)
      refine hR.mono ?_
      rintro e W3 (⟨rfl, hJ3, hk3⟩ | ⟨rfl, hJx3⟩)
      · have hq3 : W3.cell? ⟨bs, 0, none⟩ = some (.int .u8 (S : Int)) := (World.cell?_of_block (w := wr) hk3).trans hcb
        gi_wp2
        go_roundw
        case rel => exact ⟨k + 1, pre ++ [⟨k, (by omega)⟩], (by refine congrArg (Value.int .u8) ?_; omega), by omega, by rw [vals_snoc, hv, List.range_succ], by simp [hpl], hJ3, hq3⟩
        case measure => simp [intOf]; omega
      · gi_wp2
        refine bodyPost_ret (results_none rfl _ _ _) rfl ?_
        exact ⟨⟨_, rfl⟩, .inr ⟨_, trivial, hJx3⟩⟩
    · have hke : k = S + 1 := by omega
      subst hke
      have hgt : ¬ (((S + 1 : Nat) : Int) ≤ (S : Int)) := by omega
      gi_wp2
      go_end0
      exact ⟨⟨_, rfl⟩, .inl ⟨pre, by rw [hv, List.range_succ], hJs⟩⟩
end Go.Proofs.YtngacjfoldgjpaaGreatDoor
