/- The reference model's subsets, masks and membership by their contracts. -/
import Derived.Test.YtgbijndfpbcjeaaSpec
namespace Go.Proofs.Ytgbijndfpbcjeaa
open Go.RowKit

theorem subs_step {a b : List Int} {k : Nat} {x : Int} (hx : a[k]? = some x) (h : subs (a.take k) b = true) (hb : has b x = true) : subs (a.take (k + 1)) b = true := by
  simp only [subs, List.take_add_one, hx, Option.toList_some, List.all_append, List.all_cons, List.all_nil, hb, Bool.and_true] at h ⊢
  exact h
theorem subs_stop {a b : List Int} {k : Nat} {x : Int} (hx : a[k]? = some x) (hb : has b x = false) : subs a b = false := by
  simp only [subs, List.all_eq_false]
  exact ⟨x, List.mem_of_getElem? hx, by simp [hb]⟩

set_option maxRecDepth 100000 in
set_option maxHeartbeats 800000 in
theorem l1Subset_any (A B : Option Addr) (c d : Nat) (a b : List Int) (w : World) (ha : IL w A a) (hb : IL w B b) (hla : a.length ≤ 1048576) (hlb : b.length ≤ 1048576) :
    Calls Try.prog 74 #[.slice A a.length c, .slice B b.length d] w fun e w' => e = .returned (.bool (subs a b)) ∧ w = w' := by
  go_enter Try.func74, Try.ntmps74
  go_wp2
  go_loop [5] (fun i => ∃ k : Nat, k ≤ a.length ∧ i = .int .i64 k ∧ Hid (subs (a.take k) b = true)) (fun i => a.length - (intOf i).toNat)
  case atStart => exact ⟨0, Nat.zero_le _, rfl, by show _ = _; simp [subs]⟩
  case round =>
    obtain ⟨k, hk, rfl, hnot⟩ := hrel
    by_cases hlt : k < a.length
    · obtain ⟨bl, off, x, rfl, hx, hc⟩ := ha.at_ hlt
      cases hcb : has b x
      · have H := Lib.hid (subs_stop hx hcb)
        have HB := Lib.hid hcb
        clear hx hnot hcb
        go_wp2_with fail
        refine (l1Contains_f _ _ _ _ _ hb hlb HB.out).mono ?_
        rintro e w' ⟨rfl, rfl⟩
        go_wp2
        go_ret
        exact ⟨ret_bool H.out.symm, rfl⟩
      · have H := Lib.hid (subs_step hx hnot.out hcb)
        have HB := Lib.hid hcb
        clear hx hnot hcb
        go_wp2_with fail
        refine (l1Contains_t _ _ _ _ _ hb hlb HB.out).mono ?_
        rintro e w' ⟨rfl, rfl⟩
        go_wp2
        go_round
        case rel => exact ⟨k + 1, by omega, by go_num, H.out⟩
        case measure => simp [intOf]; omega
    · have hkl : k = a.length := by omega
      subst hkl
      have H := Lib.hid (show subs a b = true by have := hnot.out; rwa [List.take_length] at this)
      clear hnot
      go_wp2
      go_ret
      exact ⟨ret_bool H.out.symm, rfl⟩

theorem pow_small {n : Nat} (h : n ≤ 6) : 2 ^ n ≤ 64 := Nat.pow_le_pow_right (by omega) h

set_option maxRecDepth 100000 in
set_option maxHeartbeats 800000 in
theorem l1Masks_any (w : World) : Calls Try.prog 53 #[] w fun e w' => e = .returned (.int .i64 64) ∧ w = w' := by
  go_enter Try.func53, Try.ntmps53
  go_wp2
  go_loop [1, 2] (fun n i => ∃ k p : Nat, k ≤ 6 ∧ i = .int .i64 k ∧ n = .int .i64 p ∧ p ≤ 64 ∧ Hid (p = 2 ^ k)) (fun _ i => 6 - (intOf i).toNat)
  case atStart => exact ⟨0, 1, by omega, rfl, rfl, by omega, rfl⟩
  case round =>
    obtain ⟨k, p, hk, rfl, rfl, hp, he⟩ := hrel
    by_cases hlt : k < 6
    · go_wp2
      go_round
      case rel => exact ⟨k + 1, 2 * p, by omega, by go_num, by go_num, by have := pow_small (n := k + 1) (by omega); rw [Nat.pow_succ, ← he.out] at this; omega, by show _ = _; rw [he.out, Nat.pow_succ, Nat.mul_comm]⟩
      case measure => simp [intOf]; omega
    · have H := Lib.hid (show p = 64 by rw [he.out, show k = 6 by omega])
      clear he
      go_wp2
      go_ret
      exact ⟨by rw [H.out]; rfl, rfl⟩

set_option maxRecDepth 100000 in
set_option maxHeartbeats 1600000 in
theorem l1Mask_any (A : Option Addr) (c : Nat) (l : List Int) (w : World) (ha : IL w A l) (hv : vld l = true) :
    Calls Try.prog 73 #[.slice A l.length c] w fun e w' => e = .returned (.int .i64 (msk l)) ∧ w = w' := by
  have hl := vld_len hv
  have HV := Lib.hid hv
  clear hv
  go_enter Try.func73, Try.ntmps73
  go_wp2
  go_loop [3, 4] (fun s i => ∃ t m : Int, -1 ≤ t ∧ t < l.length ∧ i = .int .i64 t ∧ s = .int .i64 m ∧ 0 ≤ m ∧ m ≤ 63 ∧ Hid (m = bsum (l.drop (t + 1).toNat))) (fun _ i => (intOf i + 1).toNat)
  case atStart => exact ⟨(l.length : Int) - 1, 0, by omega, by omega, rfl, rfl, by omega, by omega, by show _ = _; rw [List.drop_of_length_le (by omega)]; rfl⟩
  case round =>
    obtain ⟨t, m, ht1, ht2, rfl, rfl, hm0, hm1, hme⟩ := hrel
    by_cases h0 : 0 ≤ t
    · obtain ⟨j, rfl⟩ := Int.eq_ofNat_of_zero_le h0
      obtain ⟨b, off, x, rfl, hx, hc⟩ := ha.at_ (k := j) (by omega)
      obtain ⟨hx1, hx6⟩ := vld_at HV.out hx
      obtain ⟨n, rfl⟩ := Int.eq_ofNat_of_zero_le (show 0 ≤ x by omega)
      have HX := Lib.hid hx
      clear hx
      go_wp2
      go_loop [5, 6] (fun bit q => ∃ k p : Nat, 1 ≤ k ∧ k ≤ n ∧ q = .int .i64 k ∧ bit = .int .i64 p ∧ p ≤ 64 ∧ Hid (p = 2 ^ (k - 1))) (fun _ q => n - (intOf q).toNat)
      case atStart => exact ⟨1, 1, by omega, by omega, rfl, rfl, by omega, rfl⟩
      case round =>
        obtain ⟨k, p, hk1, hkn, rfl, rfl, hp, hpe⟩ := hrel
        by_cases hkl : k < n
        · go_wp2
          go_round
          case rel => exact ⟨k + 1, 2 * p, by omega, by omega, by go_num, by go_num, by have := pow_small (n := k) (by omega); rw [show k = k - 1 + 1 by omega, Nat.pow_succ, ← hpe.out] at this; omega, by show _ = _; rw [hpe.out, show k + 1 - 1 = k - 1 + 1 by omega, Nat.pow_succ, Nat.mul_comm]⟩
          case measure => simp [intOf]; omega
        · have H := Lib.hid (show m + (p : Int) = bsum (l.drop j) by
            rw [drop_at HX.out, bsum_cons, hme.out, hpe.out, show k = n by omega, Int.toNat_natCast, show ((j : Int) + 1).toNat = j + 1 by omega])
          have hbd : 0 ≤ m + (p : Int) ∧ m + (p : Int) ≤ 63 := by rw [H.out]; exact bsum_bd HV.out j
          obtain ⟨hbd1, hbd2⟩ := hbd
          clear hpe hme
          go_wp2
          go_round
          case rel => exact ⟨(j : Int) - 1, m + (p : Int), by omega, by omega, by go_num, by go_num, hbd1, hbd2, by show _ = _; rw [H.out]; congr 2; omega⟩
          case measure => simp [intOf]
    · have H := Lib.hid (show m = (msk l : Int) by rw [hme.out, show (t + 1).toNat = 0 by omega, List.drop_zero, bsum_msk HV.out])
      clear hme
      go_wp2
      go_ret
      exact ⟨by rw [← H.out]; rfl, rfl⟩

theorem bit_of {s k : Nat} {b : Bool} (h : Nat.testBit s k = b) : (s / 2 ^ k) % 2 = if b then 1 else 0 := by
  rw [← h, Nat.testBit_eq_decide_div_mod_eq]
  by_cases e : s / 2 ^ k % 2 = 1
  · simp [e]
  · simp [e]; omega

set_option maxRecDepth 100000 in
set_option maxHeartbeats 1600000 in
theorem l1OfMask_any (s : Nat) (w : World) (hs : s < 64) :
    Calls Try.prog 70 #[.int .i64 s] w (New w (mem s)) := by
  obtain ⟨i0, hi0, hz0, hz1, hz2⟩ := info_parts int_info
  go_enter Try.func70, Try.ntmps70
  go_wp2
  go_loopw [0, 3, 4] (fun q v i wr => ∃ k t : Nat, 1 ≤ k ∧ k ≤ 7 ∧ i = .int .i64 k ∧ q = .int .i64 t ∧ t < 64 ∧ Hid (t = s / 2 ^ (k - 1)) ∧ wr.ownsRow w.heap.size 3 1 v (memTo s k).length ((memTo s k).map (Value.int .i64)) ∧ Below w.heap.size w wr) (fun _ _ i _ => 7 - (intOf i).toNat)
  case atStart => exact ⟨1, s, by omega, by omega, rfl, rfl, hs, by show _ = _; simp, World.ownsRow_made w #[] 0 (Nat.le_refl _) (Nat.zero_le _) rfl, (Below.refl _ _).alloc (Nat.le_refl _) _⟩
  case round =>
    obtain ⟨k, t, hk1, hk7, rfl, rfl, ht, hte, hown, hbel⟩ := hrel
    by_cases hlt : k < 7
    · have hln := memTo_len s k
      have HT := Lib.hid (show t / 2 = s / 2 ^ (k + 1 - 1) by rw [hte.out, show k + 1 - 1 = k - 1 + 1 by omega, Nat.pow_succ, Nat.div_div_eq_div_mul])
      cases hbit : Nat.testBit s (k - 1)
      · have hodd : (t : Int) % 2 = 0 := by have := bit_of hbit; rw [← hte.out] at this; simp at this; omega
        rw [← memTo_no hk1 hbit] at hown
        have HO := Lib.hid hown
        clear hown hbit hte
        go_wp2
        go_roundw
        case rel => exact ⟨k + 1, t / 2, by omega, by omega, by go_num, by go_num, by omega, HT.out, HO.out, hbel⟩
        case measure => simp [intOf]; omega
      · have hodd : (t : Int) % 2 = 1 := by have := bit_of hbit; rw [← hte.out] at this; simp at this; omega
        have HB := Lib.hid hbit
        clear hbit hte
        go_wp2_with (at_builtin; refine wpList_append_own _ rfl (.tmp 13) (.tmp 15) 28 rfl w.heap.size 3 i0 (.int .i64 0) 1 8 Try.underlying28 hi0 hz0 hz1 hz2 rfl (by decide) _ _ _ rfl (hown.alloc _) ⟨wr.heap.size, 0, none⟩ 1 1 [.int .i64 k] rfl rfl (cell_one_new _ _ _) (ints_oneCell .i64 [(k : Int)]) (by unfold maxLen; omega) (by omega) (by have := hbel.size; simp; omega) ?_)
        intro v' w1 hown' hgrow _
        have R := app_one hown hbel hown' hgrow
        rw [← memTo_yes hk1 HB.out] at R
        have HR := Lib.hid R
        clear R hown hown' hgrow hbel
        go_wp2
        go_roundw
        case rel => exact ⟨k + 1, t / 2, by omega, by omega, by go_num, by go_num, by omega, HT.out, HR.out.1, HR.out.2⟩
        case measure => simp [intOf]; omega
    · have hkl : k = 7 := by omega
      subst hkl
      rw [memTo_all] at hown
      have HN := Lib.hid (New.mk hown hbel)
      clear hown hbel hte
      go_wp2
      go_ret
      exact HN.out

end Go.Proofs.Ytgbijndfpbcjeaa
