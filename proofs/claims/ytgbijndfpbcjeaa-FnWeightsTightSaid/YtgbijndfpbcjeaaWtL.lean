/- The program's WeightsFamily, by its contract. -/
import Derived.Test.YtgbijndfpbcjeaaWhereW
namespace Go.Proofs.Ytgbijndfpbcjeaa
open Go.RowKit

set_option maxRecDepth 100000 in
set_option maxHeartbeats 3200000 in
theorem implWFam_any (A : Option Addr) (c : Nat) (v : List Int) (n : Int) (w : World) (ha : IL w A v) (hlv : v.length ≤ 1048576) :
    Calls Try.prog 33 #[.slice A v.length c, .int .i64 n] w (NewSS2 w (outM (enoL v n) (wfOk v n)) (wfOk v n)) := by
  have hba : Below w.heap.size w (w.alloc (.cells #[.int .i64 n] 3)) := (Below.refl _ w).alloc (Nat.le_refl _) _
  have hna : (w.alloc (.cells #[.int .i64 n] 3)).cell? ⟨w.heap.size, 0, none⟩ = some (.int .i64 n) := by
    rw [cell_of_row _ w.heap.size 0 _ _ (0, 0) (heap_alloc_new w _)]
    rfl
  have hsz : w.heap.size < (w.alloc (.cells #[.int .i64 n] 3)).heap.size := by simp
  go_enter Try.func33, Try.ntmps33
  go_wp2_with fail
  generalize w.alloc (.cells #[.int .i64 n] 3) = w0 at *
  refine (votesOf_any _ _ _ _ (ha.below hba) hlv).mono ?_
  rintro e w1 ⟨b1, ⟨hv, rfl⟩ | ⟨hv, rfl⟩⟩
  · have HB := Lib.hid (show wfOk v n = false by simp [wfOk, hv])
    have hbz : Below w.heap.size w (w1.alloc (.cells #[.int .u8 0, .int .i64 0, .int .i64 0, .int .i64 0, .int .i64 0, .int .i64 0, .int .i64 0] 87)) := (below_step hba b1).alloc (below_step hba b1).size _
    clear hv
    unfold VV
    go_wp2
    generalize (w1.alloc (.cells #[.int .u8 0, .int .i64 0, .int .i64 0, .int .i64 0, .int .i64 0, .int .i64 0, .int .i64 0] 87)) = w3 at *
    go_quiet (fail)
    go_wp2
    go_ret2
    rw [HB.out, outM]
    exact NewSS2.nil (below_drewN hbz _)
  · have hb01 := below_step hba b1
    have hbz : Below w.heap.size w (w1.alloc (.cells #[.int .u8 ((posT v v.length : Nat) : Int), .int .i64 (vt v 0), .int .i64 (vt v 1), .int .i64 (vt v 2), .int .i64 (vt v 3), .int .i64 (vt v 4), .int .i64 (vt v 5)] 87)) := hb01.alloc hb01.size _
    have hvb := VB.newV w1 (posT v v.length) (vt v)
    have hn3 : (w1.alloc (.cells #[.int .u8 ((posT v v.length : Nat) : Int), .int .i64 (vt v 0), .int .i64 (vt v 1), .int .i64 (vt v 2), .int .i64 (vt v 3), .int .i64 (vt v 4), .int .i64 (vt v 5)] 87)).cell? ⟨w.heap.size, 0, none⟩ = some (.int .i64 n) := (World.cell?_of_block (w := w0) ((Below.heap_alloc w1 _ w.heap.size (by have := b1.size; omega)).trans (b1.block _ hsz))).trans hna
    have hw3 : w.heap.size < w1.heap.size := by have := b1.size; omega
    have HV := Lib.hid hv
    have HC := Lib.hid (fun W => total_any v W hv)
    clear hv b1 hb01 hna hba hsz ha
    by_cases hn1 : n < 1
    · have HB := Lib.hid (show wfOk v n = false by
        rw [Bool.eq_false_iff]
        intro h
        simp only [wfOk, Bool.and_eq_true, decide_eq_true_eq] at h
        omega)
      unfold VV at *
      go_wp2
      generalize (w1.alloc (.cells #[.int .u8 ((posT v v.length : Nat) : Int), .int .i64 (vt v 0), .int .i64 (vt v 1), .int .i64 (vt v 2), .int .i64 (vt v 3), .int .i64 (vt v 4), .int .i64 (vt v 5)] 87)) = w3 at *
      go_quiet (fail)
      go_wp2
      go_ret2
      rw [HB.out, outM]
      exact NewSS2.nil (below_drewN hbz _)
    · have hd1 : decide (n < 1) = false := decide_eq_false hn1
      unfold VV at *
      go_wp2
      generalize (w1.alloc (.cells #[.int .u8 ((posT v v.length : Nat) : Int), .int .i64 (vt v 0), .int .i64 (vt v 1), .int .i64 (vt v 2), .int .i64 (vt v 3), .int .i64 (vt v 4), .int .i64 (vt v 5)] 87)) = w3 at *
      have q0 := hvb.c0
      have q1 := hvb.c1
      have q2 := hvb.c2
      have q3 := hvb.c3
      have q4 := hvb.c4
      have q5 := hvb.c5
      have q6 := hvb.c6
      have hl3 := hvb.lt
      by_cases hnt : n ≤ wsum v 63
      · have HB := Lib.hid (show wfOk v n = true by simp [wfOk, HV.out, hnt]; omega)
        have hd2 : decide (wsum v 63 < n) = false := decide_eq_false (by omega)
        have hE : Hid ((List.range 64).filter (eno v n) = enoL v n) := Lib.hid rfl
        generalize wsum v 63 = t at *
        go_region_law (first
          | (go_simp; go_at_call 82; refine (HC.out _).mono ?_; rintro e w4 ⟨rfl, b4⟩; have B2 : Below w.heap.size w w4 := below_step hbz ⟨b4.os, b4.tape, b4.output, b4.size, b4.block⟩; have hn4 := (World.cell?_of_block (w := w3) (b4.block w.heap.size (by show w.heap.size < w3.heap.size; omega))).trans hn3; have hvb4 : VB w4 w1.heap.size (posT v v.length) (vt v) := hvb.kept (b4.block _ hl3))
          | fail)
        all_goals (
          clear b4 HC q0 q1 q2 q3 q4 q5 q6 hvb hn3 hbz
          go_wp2_with fail
          refine (whereW v n w1.heap.size w.heap.size _ HV.out hvb4 hn4).mono ?_
          rintro e w5 ⟨A3, c3, rfl, o3, b3⟩
          have hib := (IB.of_own o3).1
          rw [hE.out] at hib ⊢
          have hmn := mins_len (enoL v n)
          have hmm := mins_lt (enoL v n)
          have hb3 := below_step B2 b3
          clear o3 b3
          generalize enoL v n = M at *
          go_wp2_with fail
          refine (lists_any A3 c3 _ _ hib hmm (by omega)).mono ?_
          rintro e w6 ⟨A4, c4, rfl, o4, b6⟩
          have HR := Lib.hid (show NewSS2 w (outM M (wfOk v n)) (wfOk v n) (.returned (.tuple #[.slice A4 (mems (mins M)).length c4, .bool true])) w6 by
            rw [HB.out, outM]
            exact ⟨A4, c4, rfl, o4.base hb3.size, below_step hb3 b6⟩)
          clear o4 b6 hib hb3
          go_wp2
          go_ret2
          exact HR.out)
      · have HB := Lib.hid (show wfOk v n = false by
          rw [Bool.eq_false_iff]
          intro h
          simp only [wfOk, Bool.and_eq_true, decide_eq_true_eq] at h
          omega)
        have hd2 : decide (wsum v 63 < n) = true := decide_eq_true (by omega)
        generalize wsum v 63 = t at *
        go_region_law (first
          | (go_simp; go_at_call 82; refine (HC.out _).mono ?_; rintro e w4 ⟨rfl, b4⟩; have B2 : Below w.heap.size w w4 := below_step hbz ⟨b4.os, b4.tape, b4.output, b4.size, b4.block⟩; have hn4 := (World.cell?_of_block (w := w3) (b4.block w.heap.size (by show w.heap.size < w3.heap.size; omega))).trans hn3)
          | fail)
        all_goals (
          clear b4 HC q0 q1 q2 q3 q4 q5 q6 hvb hn3 hbz
          go_wp2
          go_ret2
          rw [HB.out, outM]
          exact NewSS2.nil B2)
end Go.Proofs.Ytgbijndfpbcjeaa
