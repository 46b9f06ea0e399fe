/- The keeper of a lease: its block, its checks and its grant, by their contracts. -/
import Derived.Test.YtfagjbbljdgefaaLs
import Derived.Test.YtfagjbbljdgefaaMuL
import Derived.Conc.MuLone
import Derived.Deep.RegionLaw
import Derived.Deep.RegionHeld3
namespace Go.Proofs.Ytfagjbbljdgefaa
open Go.RowKit
open Go.MuLone

/-- A keeper's block: the lock's state, the lease, the drift. -/
def KB (w : World) (b : Nat) (st h s n d : Int) : Prop := ∃ T, w.heap[b]? = some (.cells #[.int .i32 st, .int .u32 0, .int .i64 h, .int .i64 s, .int .i64 n, .int .i64 d] T (0, 0))
section
variable {w w' : World} {b : Nat} {st h s n d : Int}
theorem KB.lt (k : KB w b st h s n d) : b < w.heap.size := by obtain ⟨T, k⟩ := k; exact (Array.getElem?_eq_some_iff.1 k).1
theorem KB.fz (k : KB w b st h s n d) (j : Nat) : w.frozen? ⟨b, j, none⟩ = false := by obtain ⟨T, k⟩ := k; exact frozen_of_row w b j _ _ k
theorem KB.kept (k : KB w b st h s n d) (hb : w'.heap[b]? = w.heap[b]?) : KB w' b st h s n d := by obtain ⟨T, k⟩ := k; exact ⟨T, hb.trans k⟩
theorem KB.below (k : KB w b st h s n d) (hb : Below w.heap.size w w') : KB w' b st h s n d := k.kept (hb.block b k.lt)
theorem KB.cs (k : KB w b st h s n d) : w.cell? ⟨b, 0, none⟩ = some (.int .i32 st) ∧ w.cell? ⟨b, 2, none⟩ = some (.int .i64 h) ∧ w.cell? ⟨b, 3, none⟩ = some (.int .i64 s) ∧ w.cell? ⟨b, 4, none⟩ = some (.int .i64 n) ∧ w.cell? ⟨b, 5, none⟩ = some (.int .i64 d) := by
  obtain ⟨T, k⟩ := k
  exact ⟨by rw [cell_of_row w b 0 _ _ _ k]; rfl, by rw [cell_of_row w b 2 _ _ _ k]; rfl, by rw [cell_of_row w b 3 _ _ _ k]; rfl, by rw [cell_of_row w b 4 _ _ _ k]; rfl, by rw [cell_of_row w b 5 _ _ _ k]; rfl⟩
theorem KB.lock (k : KB w b st h s n d) (x : Int) : KB (w.setCell ⟨b, 0, none⟩ (.int .i32 x)) b x h s n d := by
  obtain ⟨T, k⟩ := k
  exact ⟨T, heap_setCell_same _ _ _ _ _ _ k⟩
def setL (w : World) (b : Nat) (h s n : Int) : World := ((w.setCell ⟨b, 2, none⟩ (.int .i64 h)).setCell ⟨b, 3, none⟩ (.int .i64 s)).setCell ⟨b, 4, none⟩ (.int .i64 n)
theorem KB.setL (k : KB w b st h s n d) (h' s' n' : Int) : KB (setL w b h' s' n') b st h' s' n' d := by
  obtain ⟨T, k⟩ := k
  exact ⟨T, heap_setCell_same _ _ _ _ _ _ (heap_setCell_same _ _ _ _ _ _ (heap_setCell_same _ _ _ _ _ _ k))⟩
end
theorem KB.new (w : World) (h s n d : Int) (T : Nat) : KB (w.alloc (.cells #[.int .i32 0, .int .u32 0, .int .i64 h, .int .i64 s, .int .i64 n, .int .i64 d] T)) w.heap.size 0 h s n d := ⟨T, heap_alloc_new w _⟩

theorem below_al {a b : World} (h : Below a.heap.size a b) (o : Obj) : Below a.heap.size a (b.alloc o) := h.alloc h.size o
/-- The keeper of a valid lease, made anew. -/
def Kept (w : World) (h s n now d : Int) (e : Ending) (w' : World) : Prop :=
  Below w.heap.size w w' ∧ if (lsOk h s n && tmOk now && dfOk d) = true then ∃ b, w.heap.size ≤ b ∧ e = .returned (.tuple #[.pointer (some ⟨b, 0, none⟩), .bool true]) ∧ KB w' b 0 h s n d
    else e = .returned (.tuple #[.pointer none, .bool false])
set_option maxRecDepth 100000 in
set_option maxHeartbeats 3200000 in
theorem keeperOf_any (h s n now d : Int) (w : World) :
    Calls Try.prog 32 #[AVal h s n, .int .i64 now, .int .i64 d] w (Kept w h s n now d) := by
  have H := Lib.hid (show Below w.heap.size w (w.alloc (.cells #[.int .i64 h, .int .i64 s, .int .i64 n] 24)) ∧ AF3 (w.alloc (.cells #[.int .i64 h, .int .i64 s, .int .i64 n] 24)) w.heap.size h s n from ⟨(Below.refl _ w).alloc (Nat.le_refl _) _, AF3.new w h s n _⟩)
  by_cases hl : lsOk h s n = true
  · by_cases ht : tmOk now = true
    · have E := Lib.hid (And.intro hl ht)
      by_cases h0 : 0 ≤ d
      · have e0 : decide (d < 0) = false := by simp; omega
        by_cases h1 : d ≤ 99
        · have e1 : decide (99 < d) = false := by simp; omega
          unfold Kept
          rw [hl, ht, show dfOk d = true by simp [dfOk]; omega]
          simp only [Bool.and_self, if_true]
          clear hl ht h0 h1
          unfold AVal
          go_enter Try.func32, Try.ntmps32
          go_wp2_with fail
          refine (iLsValid_any _ _ _ _).mono ?_
          rintro e w2 ⟨rfl, bb⟩
          rw [E.out.1]
          have H := Lib.hid (show Below w.heap.size w w2 ∧ AF3 w2 w.heap.size h s n from ⟨below_step H.out.1 bb, H.out.2.below bb⟩)
          clear bb
          obtain ⟨c0, c1, c2⟩ := cells3 H.out.2.ab
          go_wp2_with fail
          refine (isTime_any _ _).mono ?_
          rintro e w3 ⟨rfl, rfl⟩
          rw [E.out.2]
          go_wp2
          go_ret2
          exact ⟨below_al H.out.1 _, w2.heap.size, H.out.1.size, rfl, KB.new _ _ _ _ _ _⟩
        · have e1 : decide (99 < d) = true := by simp; omega
          unfold Kept
          rw [hl, ht, show dfOk d = false by simp [dfOk]; omega]
          simp only [Bool.and_false, Bool.false_eq_true, if_false]
          clear hl ht h0 h1
          unfold AVal
          go_enter Try.func32, Try.ntmps32
          go_wp2_with fail
          refine (iLsValid_any _ _ _ _).mono ?_
          rintro e w2 ⟨rfl, bb⟩
          rw [E.out.1]
          have H := Lib.hid (show Below w.heap.size w w2 ∧ AF3 w2 w.heap.size h s n from ⟨below_step H.out.1 bb, H.out.2.below bb⟩)
          clear bb
          go_wp2_with fail
          refine (isTime_any _ _).mono ?_
          rintro e w3 ⟨rfl, rfl⟩
          rw [E.out.2]
          go_wp2
          go_ret2
          exact ⟨H.out.1, rfl⟩
      · have e0 : decide (d < 0) = true := by simp; omega
        unfold Kept
        rw [hl, ht, show dfOk d = false by simp [dfOk]; omega]
        simp only [Bool.and_false, Bool.false_eq_true, if_false]
        clear hl ht h0
        unfold AVal
        go_enter Try.func32, Try.ntmps32
        go_wp2_with fail
        refine (iLsValid_any _ _ _ _).mono ?_
        rintro e w2 ⟨rfl, bb⟩
        rw [E.out.1]
        have H := Lib.hid (show Below w.heap.size w w2 ∧ AF3 w2 w.heap.size h s n from ⟨below_step H.out.1 bb, H.out.2.below bb⟩)
        clear bb
        go_wp2_with fail
        refine (isTime_any _ _).mono ?_
        rintro e w3 ⟨rfl, rfl⟩
        rw [E.out.2]
        go_wp2
        go_ret2
        exact ⟨H.out.1, rfl⟩
    · rw [Bool.not_eq_true] at ht
      have E := Lib.hid (And.intro hl ht)
      unfold Kept
      rw [hl, ht]
      simp only [Bool.and_false, Bool.false_and, Bool.false_eq_true, if_false]
      clear hl ht
      unfold AVal
      go_enter Try.func32, Try.ntmps32
      go_wp2_with fail
      refine (iLsValid_any _ _ _ _).mono ?_
      rintro e w2 ⟨rfl, bb⟩
      rw [E.out.1]
      have H := Lib.hid (show Below w.heap.size w w2 ∧ AF3 w2 w.heap.size h s n from ⟨below_step H.out.1 bb, H.out.2.below bb⟩)
      clear bb
      go_wp2_with fail
      refine (isTime_any _ _).mono ?_
      rintro e w3 ⟨rfl, rfl⟩
      rw [E.out.2]
      go_wp2
      go_ret2
      exact ⟨H.out.1, rfl⟩
  · rw [Bool.not_eq_true] at hl
    have E := Lib.hid hl
    unfold Kept
    rw [hl]
    simp only [Bool.false_and, Bool.false_eq_true, if_false]
    clear hl
    unfold AVal
    go_enter Try.func32, Try.ntmps32
    go_wp2_with fail
    refine (iLsValid_any _ _ _ _).mono ?_
    rintro e w2 ⟨rfl, bb⟩
    rw [E.out]
    have H := Lib.hid (show Below w.heap.size w w2 ∧ AF3 w2 w.heap.size h s n from ⟨below_step H.out.1 bb, H.out.2.below bb⟩)
    clear bb
    go_wp2
    go_ret2
    exact ⟨H.out.1, rfl⟩

theorem stayK {w wa w3 : World} {b : Nat} {st h s n d : Int} (hk : KB w b st h s n d) (h1 : Below w.heap.size w wa ∧ wa.cell? ⟨b, 0, none⟩ = some (.int .i32 st) ∧ wa.cell? ⟨b, 2, none⟩ = some (.int .i64 h) ∧ wa.cell? ⟨b, 3, none⟩ = some (.int .i64 s) ∧ wa.cell? ⟨b, 4, none⟩ = some (.int .i64 n) ∧ wa.cell? ⟨b, 5, none⟩ = some (.int .i64 d)) (h2 : Below wa.heap.size wa w3) :
    Below w.heap.size w w3 ∧ w3.cell? ⟨b, 0, none⟩ = some (.int .i32 st) ∧ w3.cell? ⟨b, 2, none⟩ = some (.int .i64 h) ∧ w3.cell? ⟨b, 3, none⟩ = some (.int .i64 s) ∧ w3.cell? ⟨b, 4, none⟩ = some (.int .i64 n) ∧ w3.cell? ⟨b, 5, none⟩ = some (.int .i64 d) :=
  have h3 := below_step h1.1 h2
  ⟨h3, (hk.below h3).cs⟩
end Go.Proofs.Ytfagjbbljdgefaa
