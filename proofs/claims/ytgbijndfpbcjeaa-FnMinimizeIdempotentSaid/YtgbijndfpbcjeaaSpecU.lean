/- The reference model's unions by their contracts. -/
import Derived.Test.YtgbijndfpbcjeaaSpec
namespace Go.Proofs.Ytgbijndfpbcjeaa
open Go.RowKit

def inEither (a b : List Int) (x : Int) : Bool := has a x || has b x
theorem union_upTo (a b : List Int) : upTo (inEither a b) 7 = union a b := rfl

set_option maxRecDepth 100000 in
set_option maxHeartbeats 1600000 in
theorem l1Intersect_any (A B : Option Addr) (c d : Nat) (a b : List Int) (w : World) (ha : IL w A a) (hb : IL w B b) (hla : a.length ≤ 1048576) (hlb : b.length ≤ 1048576) :
    Calls Try.prog 99 #[.slice A a.length c, .slice B b.length d] w (New w (inter a b)) := by
  obtain ⟨i0, hi0, hz0, hz1, hz2⟩ := info_parts int_info
  go_enter Try.func99, Try.ntmps99
  go_wp2
  go_loopw [5, 6] (fun v i wr => ∃ k : Nat, k ≤ a.length ∧ i = .int .i64 k ∧ wr.ownsRow w.heap.size 3 1 v (takeF (has b) a k).length ((takeF (has b) a k).map (Value.int .i64)) ∧ Below w.heap.size w wr) (fun _ i _ => a.length - (intOf i).toNat)
  case atStart => exact ⟨0, by omega, rfl, World.ownsRow_made w #[] 0 (Nat.le_refl _) (Nat.zero_le _) rfl, (Below.refl _ _).alloc (Nat.le_refl _) _⟩
  case round =>
    obtain ⟨k, hk, rfl, hown, hbel⟩ := hrel
    by_cases hlt : k < a.length
    · have hln := takeF_len (has b) a k
      have hia := ha.below hbel
      have hib := hb.below hbel
      obtain ⟨bl, off, x, rfl, hx, hc⟩ := hia.at_ hlt
      cases hcb : has b x
      · have HB := Lib.hid hcb
        rw [← takeF_no hx hcb] at hown
        have HO := Lib.hid hown
        clear hown hcb hx
        go_wp2_with fail
        refine (l1Contains_f _ _ _ _ _ hib hlb HB.out).mono ?_
        rintro e w' ⟨rfl, rfl⟩
        go_wp2
        go_roundw
        case rel => exact ⟨k + 1, by omega, by go_num, HO.out, hbel⟩
        case measure => simp [intOf]; omega
      · have HB := Lib.hid hcb
        have HX := Lib.hid hx
        clear hcb hx
        go_wp2_with fail
        refine (l1Contains_t _ _ _ _ _ hib hlb HB.out).mono ?_
        rintro e w' ⟨rfl, rfl⟩
        go_wp2_with (at_builtin; refine wpList_append_own _ rfl (.tmp 20) (.tmp 25) 28 rfl w.heap.size 3 i0 (.int .i64 0) 1 8 Try.underlying28 hi0 hz0 hz1 hz2 rfl (by decide) _ _ _ rfl (hown.alloc _) ⟨wr.heap.size, 0, none⟩ 1 1 [.int .i64 x] rfl rfl (cell_one_new _ _ _) (ints_oneCell .i64 [(x : Int)]) (by unfold maxLen; omega) (by omega) (by have := hbel.size; simp; omega) ?_)
        intro v' w1 hown' hgrow _
        have R := app_one hown hbel hown' hgrow
        rw [← takeF_yes HX.out HB.out] at R
        have HR := Lib.hid R
        clear R hown hown' hgrow hbel hia hib
        go_wp2
        go_roundw
        case rel => exact ⟨k + 1, by omega, by go_num, HR.out.1, HR.out.2⟩
        case measure => simp [intOf]; omega
    · have hkl : k = a.length := by omega
      subst hkl
      rw [takeF_all] at hown
      have HN := Lib.hid (New.mk (l := inter a b) hown hbel)
      clear hown hbel
      go_wp2
      go_ret
      exact HN.out

end Go.Proofs.Ytgbijndfpbcjeaa
