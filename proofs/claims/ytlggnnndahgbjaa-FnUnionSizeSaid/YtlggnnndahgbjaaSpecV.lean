/- The reference model's set functions by their contracts. -/
import Derived.Test.YtlggnnndahgbjaaSpecU
namespace Go.Proofs.Ytlggnnndahgbjaa
open Go.RowKit

set_option maxHeartbeats 1600000 in
theorem specUnion_any (A B : Option Addr) (c d : Nat) (a b : List Int) (w : World) (ha : IL w A a) (hb : IL w B b) (hla : a.length ≤ 1048576) (hlb : b.length ≤ 1048576) :
    Calls Try.prog 11 #[.slice A a.length c, .slice B b.length d] w (New w (both union a b)) := by
  cases hva : vld a
  · rw [both_fa hva]
    have HA := Lib.hid hva
    clear hva
    go_enter Try.func11, Try.ntmps11
    go_wp2_with fail
    refine (specValid_f _ _ _ _ ha hla HA.out).mono ?_
    rintro e w1 ⟨rfl, b1⟩
    have HN := Lib.hid (New.made b1)
    clear b1
    go_wp2
    go_ret
    exact HN.out
  · have HA := Lib.hid hva
    cases hvb : vld b
    · rw [both_fb hvb]
      have HB := Lib.hid hvb
      clear hva hvb
      go_enter Try.func11, Try.ntmps11
      go_wp2_with fail
      refine (specValid_t _ _ _ _ ha hla HA.out).mono ?_
      rintro e w1 ⟨rfl, b1⟩
      go_wp2_with fail
      refine (specValid_f _ _ _ _ (hb.below b1) hlb HB.out).mono ?_
      rintro e w2 ⟨rfl, b2⟩
      have HN := Lib.hid (New.made (below_step b1 b2))
      clear b1 b2
      go_wp2
      go_ret
      exact HN.out
    · rw [both_t hva hvb]
      have HB := Lib.hid hvb
      clear hva hvb
      go_enter Try.func11, Try.ntmps11
      go_wp2_with fail
      refine (specValid_t _ _ _ _ ha hla HA.out).mono ?_
      rintro e w1 ⟨rfl, b1⟩
      go_wp2_with fail
      refine (specValid_t _ _ _ _ (hb.below b1) hlb HB.out).mono ?_
      rintro e w2 ⟨rfl, b2⟩
      have b3 := below_step b1 b2
      clear b1 b2
      go_wp2_with fail
      refine (l1Union_any _ _ _ _ _ _ _ (ha.below b3) (hb.below b3) hla hlb).mono ?_
      intro e w3 hn
      have hn2 := hn.later b3
      clear hn b3
      obtain ⟨A', c', rfl, ho, hbb⟩ := hn2
      have HN := Lib.hid (New.mk ho hbb)
      clear ho hbb
      go_wp2
      go_ret
      exact HN.out

/-- The empty row that was made first stays. -/
theorem made_kept {w w' : World} (hw : Below (w.alloc (.cells #[] 3)).heap.size (w.alloc (.cells #[] 3)) w') :
    w'.ownsRow w.heap.size 3 1 (.slice (some ⟨w.heap.size, 0, none⟩) 0 0) 0 [] ∧ Below w.heap.size w w' := by
  have o0 : (w.alloc (.cells #[] 3)).ownsRow w.heap.size 3 1 (.slice (some ⟨w.heap.size, 0, none⟩) 0 0) 0 [] := World.ownsRow_made w #[] 0 (Nat.le_refl _) (Nat.zero_le _) rfl
  exact ⟨o0.kept (row := none) ⟨hw.os, hw.tape, hw.output, hw.size, fun i hi _ => hw.block i hi⟩ (.inr (by simp [Value.ownBlock])), below_step ((Below.refl _ _).alloc (Nat.le_refl _) _) hw⟩
/-- Not in b. -/
def notIn (b : List Int) (x : Int) : Bool := !has b x

end Go.Proofs.Ytlggnnndahgbjaa
