/- The reference model's subsets, masks and membership by their contracts. -/
import Derived.Test.YtncjpejkibhdoaaDoorSpec
namespace Go.Proofs.YtncjpejkibhdoaaDoor
open Go.RowKit

theorem subs_step {a b : List Int} {k : Nat} {x : Int} (hx : a[k]? = some x) (h : subs (a.take k) b = true) (hb : has b x = true) : subs (a.take (k + 1)) b = true := by
  simp only [subs, List.take_add_one, hx, Option.toList_some, List.all_append, List.all_cons, List.all_nil, hb, Bool.and_true] at h ⊢
  exact h
theorem subs_stop {a b : List Int} {k : Nat} {x : Int} (hx : a[k]? = some x) (hb : has b x = false) : subs a b = false := by
  simp only [subs, List.all_eq_false]
  exact ⟨x, List.mem_of_getElem? hx, by simp [hb]⟩

theorem pow_small {n : Nat} (h : n ≤ 6) : 2 ^ n ≤ 64 := Nat.pow_le_pow_right (by omega) h

theorem bit_of {s k : Nat} {b : Bool} (h : Nat.testBit s k = b) : (s / 2 ^ k) % 2 = if b then 1 else 0 := by
  rw [← h, Nat.testBit_eq_decide_div_mod_eq]
  by_cases e : s / 2 ^ k % 2 = 1
  · simp [e]
  · simp [e]; omega

set_option maxRecDepth 100000 in
set_option maxHeartbeats 1600000 in
theorem l1OfMask_any (s : Nat) (w : World) (hs : s < 64) :
    Calls Tryd.prog 30 #[.int .i64 s] w (New w (mem s)) := by
  obtain ⟨i0, hi0, hz0, hz1, hz2⟩ := info_parts int_info
  go_enter Tryd.func30, Tryd.ntmps30
  go_wp2
  go_loopw [0, 3, 4] (fun q v i wr => ∃ k t : Nat, 1 ≤ k ∧ k ≤ 7 ∧ i = .int .i64 k ∧ q = .int .i64 t ∧ t < 64 ∧ Hid (t = s / 2 ^ (k - 1)) ∧ wr.ownsRow w.heap.size 3 1 v (memTo s k).length ((memTo s k).map (Value.int .i64)) ∧ Below w.heap.size w wr) (fun _ _ i _ => 7 - (intOf i).toNat)
  case atStart => exact ⟨1, s, by omega, by omega, rfl, rfl, hs, by show _ = _; simp, World.ownsRow_made w #[] 0 (Nat.le_refl _) (Nat.zero_le _) rfl, (Below.refl _ _).alloc (Nat.le_refl _) _⟩
  case round =>
    obtain ⟨k, t, hk1, hk7, rfl, rfl, ht, hte, hown, hbel⟩ := hrel
    by_cases hlt : k < 7
    · have hln := memTo_len s k
      have HT := Lib.hid (show t / 2 = s / 2 ^ (k + 1 - 1) by rw [hte.out, show k + 1 - 1 = k - 1 + 1 by omega, Nat.pow_succ, Nat.div_div_eq_div_mul])
      cases hbit : Nat.testBit s (k - 1)
      · have hodd : (t : Int) % 2 = 0 := by have := bit_of hbit; rw [← hte.out] at this; simp at this; omega
        rw [← memTo_no hk1 hbit] at hown
        have HO := Lib.hid hown
        clear hown hbit hte
        go_wp2
        go_roundw
        case rel => exact ⟨k + 1, t / 2, by omega, by omega, by go_num, by go_num, by omega, HT.out, HO.out, hbel⟩
        case measure => simp [intOf]; omega
      · have hodd : (t : Int) % 2 = 1 := by have := bit_of hbit; rw [← hte.out] at this; simp at this; omega
        have HB := Lib.hid hbit
        clear hbit hte
        go_wp2_with (at_builtin; refine wpList_append_own _ rfl (.tmp 13) (.tmp 15) 23 rfl w.heap.size 3 i0 (.int .i64 0) 1 8 Tryd.underlying23 hi0 hz0 hz1 hz2 rfl (by decide) _ _ _ rfl (hown.alloc _) ⟨wr.heap.size, 0, none⟩ 1 1 [.int .i64 k] rfl rfl (cell_one_new _ _ _) (ints_oneCell .i64 [(k : Int)]) (by unfold maxLen; omega) (by omega) (by have := hbel.size; simp; omega) ?_)
        intro v' w1 hown' hgrow _
        have R := app_one hown hbel hown' hgrow
        rw [← memTo_yes hk1 HB.out] at R
        have HR := Lib.hid R
        clear R hown hown' hgrow hbel
        go_wp2
        go_roundw
        case rel => exact ⟨k + 1, t / 2, by omega, by omega, by go_num, by go_num, by omega, HT.out, HR.out.1, HR.out.2⟩
        case measure => simp [intOf]; omega
    · have hkl : k = 7 := by omega
      subst hkl
      rw [memTo_all] at hown
      have HN := Lib.hid (New.mk hown hbel)
      clear hown hbel hte
      go_wp2
      go_ret
      exact HN.out

end Go.Proofs.YtncjpejkibhdoaaDoor
