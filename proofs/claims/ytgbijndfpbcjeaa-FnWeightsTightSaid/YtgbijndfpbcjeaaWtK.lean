/- Whether a set has enough votes: the closure of the program's WeightsFamily, by its contract. -/
import Derived.Test.YtgbijndfpbcjeaaWtJ
import Derived.Test.YtgbijndfpbcjeaaWhere0
namespace Go.Proofs.Ytgbijndfpbcjeaa
open Go.RowKit

set_option maxRecDepth 100000 in
set_option maxHeartbeats 1600000 in
theorem enough_any (v : List Int) (n : Int) (s ba bn : Nat) (w : World) (hv : wOk v = true) (hs : s < 64) (ha : VB w ba (posT v v.length) (vt v)) (hn : w.cell? ⟨bn, 0, none⟩ = some (.int .i64 n)) :
    Calls Try.prog 83 #[.int .u8 s, .pointer (some ⟨ba, 0, none⟩), .pointer (some ⟨bn, 0, none⟩)] w fun e w' => e = .returned (.bool (eno v n s)) ∧ Below w.heap.size w w' := by
  have hbn : bn < w.heap.size := World.block_lt_of_cell? w _ hn
  have q0 := ha.c0
  have q1 := ha.c1
  have q2 := ha.c2
  have q3 := ha.c3
  have q4 := ha.c4
  have q5 := ha.c5
  have q6 := ha.c6
  have HC := Lib.hid (fun W => sum_any v s W hv hs)
  have HE : Hid (eno v n s = decide (n ≤ wsum v s)) := Lib.hid rfl
  clear hv
  unfold VV at *
  generalize wsum v s = t at *
  go_enter Try.func83, Try.ntmps83
  go_wp2_with fail
  go_region_law (first
    | (go_simp; go_at_call 84; refine (HC.out _).mono ?_; rintro e w1 ⟨rfl, b1⟩; have hn1 := (World.cell?_of_block (w := w) (b1.block bn hbn)).trans hn; have B1 : Below w.heap.size w w1 := ⟨b1.os, b1.tape, b1.output, b1.size, b1.block⟩)
    | fail)
  all_goals (clear b1 HC; go_wp2; go_ret; exact ⟨ret_bool HE.out.symm, B1⟩)
end Go.Proofs.Ytgbijndfpbcjeaa
