/- SetOfMask, the model's and the program's, by their contracts. -/
import Derived.Test.YtncjpejkibhdoaaDoorSpecM
import Derived.Test.YtncjpejkibhdoaaDoorImpl
namespace Go.Proofs.YtncjpejkibhdoaaDoor
open Go.RowKit

theorem New2.mk {w w' : World} {l : List Int} {b : Bool} {A : Option Addr} {c : Nat} (ho : w'.ownsRow w.heap.size 3 1 (.slice A l.length c) l.length (l.map (Value.int .i64))) (hb : Below w.heap.size w w') :
    New2 w l b (.returned (.tuple #[.slice A l.length c, .bool b])) w' := ⟨A, c, rfl, ho, hb⟩
theorem New2.made {w w1 : World} (hb : Below w.heap.size w w1) : New2 w [] false (.returned (.tuple #[.slice (some ⟨w1.heap.size, 0, none⟩) 0 0, .bool false])) (w1.alloc (.cells #[] 3)) :=
  ⟨_, 0, rfl, World.ownsRow_made w1 #[] 0 hb.size (Nat.zero_le _) rfl, hb.alloc hb.size _⟩
theorem New2.nil {w w' : World} (hb : Below w.heap.size w w') : New2 w [] false (.returned (.tuple #[.slice none 0 0, .bool false])) w' := ⟨none, 0, rfl, World.ownsRow_nil _ _ _ _, hb⟩

theorem l6In_yes' (n a b : Int) (w : World) (h1 : a ≤ n) (h2 : n ≤ b) :
    Calls Tryd.prog 18 #[.int .i64 n, .int .i64 a, .int .i64 b] w fun e w' => e = .returned (.bool true) ∧ w = w' := (l6In_yes n a b w h1 h2).mono fun _ _ h => ⟨h.1, h.2.symm⟩
theorem l6In_no' (n a b : Int) (w : World) (h : n < a ∨ b < n) :
    Calls Tryd.prog 18 #[.int .i64 n, .int .i64 a, .int .i64 b] w fun e w' => e = .returned (.bool false) ∧ w = w' := (l6In_no n a b w h).mono fun _ _ h => ⟨h.1, h.2.symm⟩

set_option maxRecDepth 100000 in
set_option maxHeartbeats 800000 in
theorem implOfMask_any (m : Int) (w : World) : Calls Tryd.prog 23 #[.int .i64 m] w (New2 w (memR m) (memOk m)) := by
  by_cases h : 0 ≤ m ∧ m ≤ 63
  · obtain ⟨h0, h1⟩ := h
    obtain ⟨s, rfl⟩ := Int.eq_ofNat_of_zero_le h0
    rw [show memR (s : Int) = mem s by simp only [memR]; rw [if_pos ⟨h0, h1⟩, Int.toNat_natCast], show memOk (s : Int) = true by simp only [memOk]; exact decide_eq_true ⟨h0, h1⟩]
    have hs : s < 64 := by omega
    go_enter Tryd.func23, Tryd.ntmps23
    go_wp2_with fail
    refine (members_any _ _ hs).mono ?_
    rintro e w1 ⟨A, c, rfl, ho, hb⟩
    have HN := Lib.hid (New2.mk (b := true) ho hb)
    clear ho hb
    go_wp2
    go_ret2
    exact HN.out
  · rw [show memR m = [] by simp only [memR]; rw [if_neg h], show memOk m = false by simp only [memOk]; exact decide_eq_false h]
    by_cases hn : m < 0
    · have hd : decide (m < 0) = true := by simpa using hn
      go_enter Tryd.func23, Tryd.ntmps23
      go_wp2
      go_ret2
      exact New2.nil (Below.refl _ _)
    · have hd : decide (m < 0) = false := by simpa using hn
      have hd2 : 63 < m := by omega
      go_enter Tryd.func23, Tryd.ntmps23
      go_wp2
      go_ret2
      exact New2.nil (Below.refl _ _)
end Go.Proofs.YtncjpejkibhdoaaDoor
