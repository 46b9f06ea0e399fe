/- Counts in an array, the program's, by their contracts. -/
import Derived.Test.YtngacjfoldgjpaaGreatDoorCntg
import Derived.Test.YtngacjfoldgjpaaGreatDoorOnesg
import Derived.Test.YtngacjfoldgjpaaGreatDoorGc
import Derived.Laws.ResultCell
namespace Go.Proofs.YtngacjfoldgjpaaGreatDoor
open Go.RowKit

/-- Counts in memory, and as a value. -/
def AB (w : World) (b : Nat) (u : Nat → Nat) : Prop :=
  w.heap[b]? = some (.cells #[.int .i64 ((u 0 : Nat) : Int), .int .i64 ((u 1 : Nat) : Int), .int .i64 ((u 2 : Nat) : Int), .int .i64 ((u 3 : Nat) : Int), .int .i64 ((u 4 : Nat) : Int), .int .i64 ((u 5 : Nat) : Int), .int .i64 ((u 6 : Nat) : Int)] 45 (0, 0))
def AV (u : Nat → Nat) : Value := .agg #[.int .i64 ((u 0 : Nat) : Int), .int .i64 ((u 1 : Nat) : Int), .int .i64 ((u 2 : Nat) : Int), .int .i64 ((u 3 : Nat) : Int), .int .i64 ((u 4 : Nat) : Int), .int .i64 ((u 5 : Nat) : Int), .int .i64 ((u 6 : Nat) : Int)]
section
variable {w w' : World} {b : Nat} {u : Nat → Nat}
theorem AB.lt (h : AB w b u) : b < w.heap.size := (Array.getElem?_eq_some_iff.1 h).1
theorem AB.fz (h : AB w b u) (j : Nat) : w.frozen? ⟨b, j, none⟩ = false := frozen_of_row w b j _ _ h
theorem AB.at_ (h : AB w b u) {j : Nat} (hj : j < 7) : w.cell? ⟨b, j, none⟩ = some (.int .i64 ((u j : Nat) : Int)) := by
  rw [cell_of_row w b j _ _ (0, 0) h]
  have : j = 0 ∨ j = 1 ∨ j = 2 ∨ j = 3 ∨ j = 4 ∨ j = 5 ∨ j = 6 := by omega
  rcases this with rfl | rfl | rfl | rfl | rfl | rfl | rfl <;> rfl
theorem AB.kept (h : AB w b u) (hb : w'.heap[b]? = w.heap[b]?) : AB w' b u := hb.trans h
theorem AB.below (h : AB w b u) (hb : Below w.heap.size w w') : AB w' b u := h.kept (hb.block b h.lt)
theorem AB.set (h : AB w b u) {k : Nat} (hk : k < 7) (x : Nat) : AB (w.setCell ⟨b, k, none⟩ (.int .i64 (x : Int))) b (fun j => if j = k then x else u j) := by
  unfold AB
  rw [heap_setCell_same w b k _ _ _ h]
  have : k = 0 ∨ k = 1 ∨ k = 2 ∨ k = 3 ∨ k = 4 ∨ k = 5 ∨ k = 6 := by omega
  rcases this with rfl | rfl | rfl | rfl | rfl | rfl | rfl <;> rfl
theorem AB.inc (h : AB w b u) {k : Nat} (hk : k < 7) : AB (w.setCell ⟨b, k, none⟩ (.int .i64 (((u k : Nat) : Int) + 1))) b (bump u k) := by
  have e : (bump u k) = (fun j => if j = k then u k + 1 else u j) := by
    funext j
    unfold bump
    by_cases e : j = k
    · subst e; simp
    · simp [e]
  have := h.set hk (u k + 1)
  rw [e]
  exact this
end
theorem AB.newV (w : World) (u : Nat → Nat) : AB (w.alloc (.cells #[.int .i64 ((u 0 : Nat) : Int), .int .i64 ((u 1 : Nat) : Int), .int .i64 ((u 2 : Nat) : Int), .int .i64 ((u 3 : Nat) : Int), .int .i64 ((u 4 : Nat) : Int), .int .i64 ((u 5 : Nat) : Int), .int .i64 ((u 6 : Nat) : Int)] 45)) w.heap.size u := heap_alloc_new w _
theorem AB.new0 (w : World) : AB (w.alloc (.cells #[.int .i64 0, .int .i64 0, .int .i64 0, .int .i64 0, .int .i64 0, .int .i64 0, .int .i64 0] 45)) w.heap.size (fun _ => 0) := heap_alloc_new w _
/-- Counts are written over others. -/
def setA (w : World) (b : Nat) (u : Nat → Nat) : World := ((((((w.setCell ⟨b, 0, none⟩ (.int .i64 ((u 0 : Nat) : Int))).setCell ⟨b, 1, none⟩ (.int .i64 ((u 1 : Nat) : Int))).setCell ⟨b, 2, none⟩ (.int .i64 ((u 2 : Nat) : Int))).setCell ⟨b, 3, none⟩ (.int .i64 ((u 3 : Nat) : Int))).setCell ⟨b, 4, none⟩ (.int .i64 ((u 4 : Nat) : Int))).setCell ⟨b, 5, none⟩ (.int .i64 ((u 5 : Nat) : Int))).setCell ⟨b, 6, none⟩ (.int .i64 ((u 6 : Nat) : Int))
theorem AB.setA {w : World} {b : Nat} {u0 : Nat → Nat} (h : AB w b u0) (u : Nat → Nat) : AB (setA w b u) b u := by
  have h6 := ((((((h.set (k := 0) (by omega) (u 0)).set (k := 1) (by omega) (u 1)).set (k := 2) (by omega) (u 2)).set (k := 3) (by omega) (u 3)).set (k := 4) (by omega) (u 4)).set (k := 5) (by omega) (u 5)).set (k := 6) (by omega) (u 6)
  unfold AB at h6 ⊢
  exact h6
theorem setA_below {a w : World} {B b : Nat} (h : Below B a w) (hb : B ≤ b) (u : Nat → Nat) : Below B a (setA w b u) :=
  ((((((h.setCell hb _).setCell hb _).setCell hb _).setCell hb _).setCell hb _).setCell hb _).setCell hb _
theorem setA_other {w : World} {b i : Nat} (u : Nat → Nat) (h : i ≠ b) : (setA w b u).heap[i]? = w.heap[i]? := by
  unfold setA
  rw [Below.heap_setCell _ _ _ _ h, Below.heap_setCell _ _ _ _ h, Below.heap_setCell _ _ _ _ h, Below.heap_setCell _ _ _ _ h, Below.heap_setCell _ _ _ _ h, Below.heap_setCell _ _ _ _ h, Below.heap_setCell _ _ _ _ h]
theorem results_cell1 {fn : Func} {p : Tmp} {ty : TypeId} (h : fn.results = #[.cell p ty]) (tmps : Array Value) (P : Program) (w : World) :
    (results fn tmps).run P w = ((asAddr (tmps.getD p undef)).run P w).andThen fun a w₁ => (loadVar ty a).run P w₁ := by
  simp only [results, h]
  simp [Sem.run_bind, Result.andThen]

theorem idx_agg (u : Nat → Nat) {k : Nat} (hk : k < 7) (w : World) : (Instr.index 45 (.agg #[.int .i64 ((u 0 : Nat) : Int), .int .i64 ((u 1 : Nat) : Int), .int .i64 ((u 2 : Nat) : Int), .int .i64 ((u 3 : Nat) : Int), .int .i64 ((u 4 : Nat) : Int), .int .i64 ((u 5 : Nat) : Int), .int .i64 ((u 6 : Nat) : Int)]) (.int .i64 (k : Int))).run Tryz.prog w = .ok (.int .i64 ((u k : Nat) : Int)) w := by
  have : k = 0 ∨ k = 1 ∨ k = 2 ∨ k = 3 ∨ k = 4 ∨ k = 5 ∨ k = 6 := by omega
  rcases this with rfl | rfl | rfl | rfl | rfl | rfl | rfl <;> (show _ = _; kernel_rfl)

set_option maxRecDepth 100000 in
set_option maxHeartbeats 1600000 in
theorem largest_any (u : Nat → Nat) (w : World) :
    Calls Tryz.prog 16 #[AV u] w fun e w' => (∃ k : Nat, k ≤ 7 ∧ e = .returned (.int .i64 ((k : Int) - 1)) ∧ (k = 0 ∨ u (k - 1) ≠ 0) ∧ ∀ j, k ≤ j → j < 7 → u j = 0) ∧ Below w.heap.size w w' := by
  have hab := AB.newV w u
  have hb0 : Below w.heap.size w (w.alloc (.cells #[.int .i64 ((u 0 : Nat) : Int), .int .i64 ((u 1 : Nat) : Int), .int .i64 ((u 2 : Nat) : Int), .int .i64 ((u 3 : Nat) : Int), .int .i64 ((u 4 : Nat) : Int), .int .i64 ((u 5 : Nat) : Int), .int .i64 ((u 6 : Nat) : Int)] 45)) := (Below.refl _ w).alloc (Nat.le_refl _) _
  unfold AV
  go_enter Tryz.func16, Tryz.ntmps16
  go_wp2
  generalize w.alloc (.cells #[.int .i64 ((u 0 : Nat) : Int), .int .i64 ((u 1 : Nat) : Int), .int .i64 ((u 2 : Nat) : Int), .int .i64 ((u 3 : Nat) : Int), .int .i64 ((u 4 : Nat) : Int), .int .i64 ((u 5 : Nat) : Int), .int .i64 ((u 6 : Nat) : Int)] 45) = w0 at *
  go_loop [3] (fun v => ∃ k : Nat, k ≤ 7 ∧ v = .int .i64 ((k : Int) - 1) ∧ Hid (∀ j, k ≤ j → j < 7 → u j = 0)) (fun v => (intOf v + 1).toNat)
  case atStart => exact ⟨7, by omega, rfl, Lib.hid (fun j _ _ => by omega)⟩
  case round =>
    obtain ⟨k, hk, rfl, HZ⟩ := hrel
    rcases Nat.eq_zero_or_pos k with rfl | hk0
    · have hd : decide ((0 : Int) ≤ ((0 : Nat) : Int) - 1) = false := by decide
      go_wp2
      go_ret
      exact ⟨⟨0, by omega, rfl, .inl rfl, HZ.out⟩, hb0⟩
    · obtain ⟨j, rfl⟩ : ∃ j, k = j + 1 := ⟨k - 1, by omega⟩
      have e : ((j + 1 : Nat) : Int) - 1 = (j : Int) := by omega
      rw [e]
      have hc := hab.at_ (j := j) (by omega)
      have hj0 : (0 : Int) ≤ (j : Int) := by omega
      have hj7 : (j : Int) < 7 := by omega
      by_cases h0 : u j = 0
      · have H := Lib.hid (show ∀ i, j ≤ i → i < 7 → u i = 0 from fun i h1 h2 => by
          rcases Nat.eq_or_lt_of_le h1 with rfl | h3
          · exact h0
          · exact HZ.out i h3 h2)
        have h0b : (((u j : Nat) : Int) == 0) = true := by simp [h0]
        clear h0 HZ
        go_wp2
        go_round
        case rel => exact ⟨j, by omega, rfl, H⟩
        case measure => simp [intOf]
      · have H := Lib.hid h0
        have h0b : (((u j : Nat) : Int) == 0) = false := beq_eq_false_iff_ne.2 (by omega)
        clear h0
        go_wp2
        go_ret
        exact ⟨⟨j + 1, by omega, ret_int e.symm, .inr H.out, HZ.out⟩, hb0⟩

set_option maxRecDepth 100000 in
set_option maxHeartbeats 1600000 in
theorem smallest_any (u : Nat → Nat) (w : World) :
    Calls Tryz.prog 32 #[AV u] w fun e w' => (∃ k : Nat, k ≤ 7 ∧ e = .returned (.int .i64 (if k < 7 then (k : Int) else -1)) ∧ (k < 7 → u k ≠ 0) ∧ ∀ j, j < k → u j = 0) ∧ Below w.heap.size w w' := by
  have hab := AB.newV w u
  have hb0 : Below w.heap.size w (w.alloc (.cells #[.int .i64 ((u 0 : Nat) : Int), .int .i64 ((u 1 : Nat) : Int), .int .i64 ((u 2 : Nat) : Int), .int .i64 ((u 3 : Nat) : Int), .int .i64 ((u 4 : Nat) : Int), .int .i64 ((u 5 : Nat) : Int), .int .i64 ((u 6 : Nat) : Int)] 45)) := (Below.refl _ w).alloc (Nat.le_refl _) _
  unfold AV
  go_enter Tryz.func32, Tryz.ntmps32
  go_wp2
  generalize w.alloc (.cells #[.int .i64 ((u 0 : Nat) : Int), .int .i64 ((u 1 : Nat) : Int), .int .i64 ((u 2 : Nat) : Int), .int .i64 ((u 3 : Nat) : Int), .int .i64 ((u 4 : Nat) : Int), .int .i64 ((u 5 : Nat) : Int), .int .i64 ((u 6 : Nat) : Int)] 45) = w0 at *
  go_loop [6] (fun v => ∃ k : Nat, k ≤ 7 ∧ v = .int .i64 (k : Int) ∧ Hid (∀ j, j < k → u j = 0)) (fun v => 7 - (intOf v).toNat)
  case atStart => exact ⟨0, by omega, rfl, Lib.hid (fun j _ => by omega)⟩
  case round =>
    obtain ⟨k, hk, rfl, HZ⟩ := hrel
    by_cases hk7 : k < 7
    · by_cases h0 : u k = 0
      · have H := Lib.hid (show ∀ i, i < k + 1 → u i = 0 from fun i h1 => by
          rcases Nat.eq_or_lt_of_le (Nat.le_of_lt_succ h1) with rfl | h3
          · exact h0
          · exact HZ.out i h3)
        have h0c : ¬ ((0 : Int) < ((u k : Nat) : Int)) := by omega
        have h0b : decide ((0 : Int) < ((u k : Nat) : Int)) = false := decide_eq_false h0c
        clear h0 HZ
        have hix := idx_agg u hk7
        have hki : (k : Int) < 7 := by omega
        go_wp2
        go_round
        case rel => exact ⟨k + 1, by omega, by go_num, H⟩
        case measure => simp [intOf]; omega
      · have H := Lib.hid h0
        have h0c : (0 : Int) < ((u k : Nat) : Int) := by omega
        have h0b : decide ((0 : Int) < ((u k : Nat) : Int)) = true := decide_eq_true h0c
        clear h0
        have hix := idx_agg u hk7
        have hki : (k : Int) < 7 := by omega
        go_wp2
        go_ret
        exact ⟨⟨k, by omega, ret_int (if_pos hk7).symm, fun _ => H.out, HZ.out⟩, hb0⟩
    · have hke : k = 7 := by omega
      subst hke
      go_wp2
      go_ret
      exact ⟨⟨7, by omega, rfl, fun h => absurd h hk7, HZ.out⟩, hb0⟩

def sumK (u : Nat → Nat) : Nat → Nat
  | 0 => 0
  | k + 1 => sumK u k + u k
theorem sumK_le {u : Nat → Nat} (h : ∀ j, u j ≤ 100) : ∀ k, sumK u k ≤ 100 * k
  | 0 => Nat.le_refl _
  | k + 1 => by
    have h1 := sumK_le h k
    have h2 := h k
    unfold sumK
    omega
theorem sumK_7 (u : Nat → Nat) : sumK u 7 = sum7 u := by simp [sumK, sum7]

end Go.Proofs.YtngacjfoldgjpaaGreatDoor
