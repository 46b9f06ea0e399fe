/- Rows of the call's own that are told apart by the time at which they were made. -/
import Derived.Test.YtimijinldhpmfaaBits
namespace Go.Proofs.Ytimijinldhpmfaa
open Go.RowKit

/-- The slice A reads as l; its row was made when the heap had between lo and hi blocks. -/
def Own (w : World) (lo hi : Nat) (A : Option Addr) (c : Nat) (l : List Int) : Prop :=
  w.ownsRow lo 3 1 (.slice A l.length c) l.length (l.map (Value.int .i64)) ∧ hi ≤ w.heap.size ∧ ∀ g, (Value.slice A l.length c).ownBlock = some g → lo ≤ g ∧ g < hi

section
variable {w w' : World} {lo hi c : Nat} {A : Option Addr} {l : List Int}
theorem Own.of_new (h : w'.ownsRow lo 3 1 (.slice A l.length c) l.length (l.map (Value.int .i64))) : Own w' lo w'.heap.size A c l := ⟨h, Nat.le_refl _, fun g hg => h.lt g hg⟩
theorem Own.il (h : Own w lo hi A c l) : IL w A l := (IL.of_own h.1).1
theorem Own.below (h : Own w lo hi A c l) (hb : Below w.heap.size w w') : Own w' lo hi A c l :=
  ⟨h.1.kept (row := none) ⟨hb.os, hb.tape, hb.output, hb.size, fun i hi _ => hb.block i hi⟩ (by cases (Value.slice A l.length c).ownBlock <;> simp), Nat.le_trans h.2.1 hb.size, h.2.2⟩
/-- A write into another row. -/
theorem Own.other {lo2 hi2 c2 : Nat} {A2 : Option Addr} {l2 : List Int} (h : Own w lo hi A c l) (k : Own w lo2 hi2 A2 c2 l2) (hg : w.grownBy w' (Value.slice A2 l2.length c2).ownBlock) (hd : hi ≤ lo2 ∨ hi2 ≤ lo) : Own w' lo hi A c l := by
  refine ⟨h.1.kept hg ?_, Nat.le_trans h.2.1 hg.size, h.2.2⟩
  cases e : (Value.slice A l.length c).ownBlock with
  | none => left; rfl
  | some g =>
    right
    intro e2
    have h1 := h.2.2 g e
    have h2 := k.2.2 g e2.symm
    omega
/-- The row that was written into itself. -/
theorem Own.same {l2 : List Int} (h : Own w lo hi A c l) (hl : l2.length = l.length) (hg : w.grownBy w' (Value.slice A l.length c).ownBlock) (ho : w'.ownsRow lo 3 1 (.slice A l.length c) l.length (l2.map (Value.int .i64))) : Own w' lo hi A c l2 := by
  refine ⟨by rw [hl]; exact ho, Nat.le_trans h.2.1 hg.size, fun g hg => h.2.2 g (by rw [hl] at hg; exact hg)⟩
theorem Own.keeps {w0 : World} (h : Own w lo hi A c l) (hb : Below w0.heap.size w0 w) (hlo : w0.heap.size ≤ lo) (hg : w.grownBy w' (Value.slice A l.length c).ownBlock) : Below w0.heap.size w0 w' :=
  hb.grown hg hb.size (fun k hk => Nat.le_trans hlo (h.2.2 k hk).1)
end

theorem mark_own (A : Option Addr) (c : Nat) (l : List Int) (k : Nat) (K : Int) (hK : K = k) (w : World) {lo hi : Nat} (h : Own w lo hi A c l) (hl : l.length ≤ 1048576) (hk : k ≤ 1073741824) :
    Calls Try.prog 42 #[.slice A l.length c, .int .i64 K] w fun e w' =>
      e = .returned (.int .i64 (K + l.length)) ∧ Own w' lo hi A c (marks k l.length) ∧ w.grownBy w' (Value.slice A l.length c).ownBlock := by
  subst hK
  refine (markIntS_own lo A c l k w h.1 hl hk).mono fun e w' ⟨he, ho, hg⟩ => ⟨?_, h.same (marks_len _ _) hg ho, hg⟩
  rw [he, Int.natCast_add]
theorem held_own (A : Option Addr) (c : Nat) (k n : Nat) (K : Int) (hK : K = k) (w : World) (h : IL w A (marks k n)) (hn : n ≤ 1048576) (hk : k ≤ 1073741824) :
    Calls Try.prog 43 #[.slice A n c, .int .i64 K] w fun e w' => e = .returned (.int .i64 (K + n)) ∧ w = w' := by
  subst hK
  refine (heldIntS_any A c k n w h hn hk).mono fun e w' ⟨he, hw⟩ => ⟨?_, hw⟩
  rw [he, Int.natCast_add]
end Go.Proofs.Ytimijinldhpmfaa
