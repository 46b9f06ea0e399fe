/- Sizes of bit sets, the program's, by their contracts. -/
import Derived.Test.YtngacjfoldgjpaaGreatDoorGb
namespace Go.Proofs.YtngacjfoldgjpaaGreatDoor
open Go.RowKit

theorem bytes_at {b : ByteArray} {f : Nat → Nat} {n : Nat} (h : ∀ k : Fin n, (b.data.toList.getD k.val 0).toNat = f k.val) (hf : ∀ k, f k ≤ 100) {s : Nat} (hs : s < n) (hb : s < b.size) : wrap64 ((b[s]'hb).toNat : Int) = (f s : Int) := by
  have h1 : (b.data.toList.getD s 0).toNat = f s := h ⟨s, hs⟩
  have e : b[s]'hb = b.data.toList.getD s 0 := by
    rw [List.getD_eq_getElem?_getD, List.getElem?_eq_getElem (by simpa using hb)]
    rfl
  rw [e, h1]
  have := hf s
  unfold wrap64
  omega

set_option maxRecDepth 100000 in
set_option maxHeartbeats 1600000 in
theorem ones_any (s : Nat) (w : World) (hs : s < 64) :
    Calls Tryz.prog 63 #[.int .u8 s] w fun e w' => e = .returned (.int .i64 ((mem s).length : Nat)) ∧ w = w' := by
  have h0 : (0 : Int) ≤ (s : Int) := by omega
  have h1 : (s : Int) < 256 := by omega
  go_enter Tryz.func63, Tryz.ntmps63
  go_wp2
  go_ret
  exact ⟨ret_int (bytes_at (n := 64) (f := fun s => (mem s).length) (by decide +kernel) (fun k => by have := mem_len k; omega) hs _), rfl⟩

set_option maxRecDepth 100000 in
set_option maxHeartbeats 1600000 in
theorem size_any (s : Nat) (w : World) (hs : s < 64) :
    Calls Tryz.prog 42 #[.int .u8 s] w fun e w' => e = .returned (.int .i64 ((mem s).length : Nat)) ∧ w = w' := by
  go_enter Tryz.func42, Tryz.ntmps42
  go_wp2_with fail
  refine (ones_any s _ hs).mono ?_
  rintro e w' ⟨rfl, rfl⟩
  go_wp2
  go_ret
  exact ⟨rfl, rfl⟩

set_option maxRecDepth 100000 in
set_option maxHeartbeats 1600000 in
theorem first_any (n : Nat) (w : World) (hn : n ≤ 6) :
    Calls Tryz.prog 38 #[.int .i64 n] w fun e w' => e = .returned (.int .u8 (2 ^ n - 1 : Nat)) ∧ w = w' := by
  have h : n = 0 ∨ n = 1 ∨ n = 2 ∨ n = 3 ∨ n = 4 ∨ n = 5 ∨ n = 6 := by omega
  rcases h with rfl | rfl | rfl | rfl | rfl | rfl | rfl
  all_goals
    go_enter Tryz.func38, Tryz.ntmps38
    go_wp2
    go_ret
    exact ⟨rfl, rfl⟩
end Go.Proofs.YtngacjfoldgjpaaGreatDoor
