/- The reference model's set functions by their contracts. -/
import Derived.Test.YtlbhkeijfcpffaaSpecU
namespace Go.Proofs.Ytlbhkeijfcpffaa
open Go.RowKit

set_option maxHeartbeats 1600000 in
theorem specUnion_any (A B : Option Addr) (c d : Nat) (a b : List Int) (w : World) (ha : IL w A a) (hb : IL w B b) (hla : a.length ≤ 1048576) (hlb : b.length ≤ 1048576) :
    Calls Try.prog 17 #[.slice A a.length c, .slice B b.length d] w (New w (both union a b)) := by
  cases hva : vld a
  · rw [both_fa hva]
    have HA := Lib.hid hva
    clear hva
    go_enter Try.func17, Try.ntmps17
    go_wp2_with fail
    refine (specValid_f _ _ _ _ ha hla HA.out).mono ?_
    rintro e w1 ⟨rfl, b1⟩
    have HN := Lib.hid (New.made b1)
    clear b1
    go_wp2
    go_ret
    exact HN.out
  · have HA := Lib.hid hva
    cases hvb : vld b
    · rw [both_fb hvb]
      have HB := Lib.hid hvb
      clear hva hvb
      go_enter Try.func17, Try.ntmps17
      go_wp2_with fail
      refine (specValid_t _ _ _ _ ha hla HA.out).mono ?_
      rintro e w1 ⟨rfl, b1⟩
      go_wp2_with fail
      refine (specValid_f _ _ _ _ (hb.below b1) hlb HB.out).mono ?_
      rintro e w2 ⟨rfl, b2⟩
      have HN := Lib.hid (New.made (below_step b1 b2))
      clear b1 b2
      go_wp2
      go_ret
      exact HN.out
    · rw [both_t hva hvb]
      have HB := Lib.hid hvb
      clear hva hvb
      go_enter Try.func17, Try.ntmps17
      go_wp2_with fail
      refine (specValid_t _ _ _ _ ha hla HA.out).mono ?_
      rintro e w1 ⟨rfl, b1⟩
      go_wp2_with fail
      refine (specValid_t _ _ _ _ (hb.below b1) hlb HB.out).mono ?_
      rintro e w2 ⟨rfl, b2⟩
      have b3 := below_step b1 b2
      clear b1 b2
      go_wp2_with fail
      refine (l1Union_any _ _ _ _ _ _ _ (ha.below b3) (hb.below b3) hla hlb).mono ?_
      intro e w3 hn
      have hn2 := hn.later b3
      clear hn b3
      obtain ⟨A', c', rfl, ho, hbb⟩ := hn2
      have HN := Lib.hid (New.mk ho hbb)
      clear ho hbb
      go_wp2
      go_ret
      exact HN.out

set_option maxHeartbeats 1600000 in
theorem specInter_any (A B : Option Addr) (c d : Nat) (a b : List Int) (w : World) (ha : IL w A a) (hb : IL w B b) (hla : a.length ≤ 1048576) (hlb : b.length ≤ 1048576) :
    Calls Try.prog 24 #[.slice A a.length c, .slice B b.length d] w (New w (both inter a b)) := by
  cases hva : vld a
  · rw [both_fa hva]
    have HA := Lib.hid hva
    clear hva
    go_enter Try.func24, Try.ntmps24
    go_wp2_with fail
    refine (specValid_f _ _ _ _ ha hla HA.out).mono ?_
    rintro e w1 ⟨rfl, b1⟩
    have HN := Lib.hid (New.made b1)
    clear b1
    go_wp2
    go_ret
    exact HN.out
  · have HA := Lib.hid hva
    cases hvb : vld b
    · rw [both_fb hvb]
      have HB := Lib.hid hvb
      clear hva hvb
      go_enter Try.func24, Try.ntmps24
      go_wp2_with fail
      refine (specValid_t _ _ _ _ ha hla HA.out).mono ?_
      rintro e w1 ⟨rfl, b1⟩
      go_wp2_with fail
      refine (specValid_f _ _ _ _ (hb.below b1) hlb HB.out).mono ?_
      rintro e w2 ⟨rfl, b2⟩
      have HN := Lib.hid (New.made (below_step b1 b2))
      clear b1 b2
      go_wp2
      go_ret
      exact HN.out
    · rw [both_t hva hvb]
      have HB := Lib.hid hvb
      clear hva hvb
      go_enter Try.func24, Try.ntmps24
      go_wp2_with fail
      refine (specValid_t _ _ _ _ ha hla HA.out).mono ?_
      rintro e w1 ⟨rfl, b1⟩
      go_wp2_with fail
      refine (specValid_t _ _ _ _ (hb.below b1) hlb HB.out).mono ?_
      rintro e w2 ⟨rfl, b2⟩
      have b3 := below_step b1 b2
      clear b1 b2
      go_wp2_with fail
      refine (l1Intersect_any _ _ _ _ _ _ _ (ha.below b3) (hb.below b3) hla hlb).mono ?_
      intro e w3 hn
      have hn2 := hn.later b3
      clear hn b3
      obtain ⟨A', c', rfl, ho, hbb⟩ := hn2
      have HN := Lib.hid (New.mk ho hbb)
      clear ho hbb
      go_wp2
      go_ret
      exact HN.out

/-- The empty row that was made first stays. -/
theorem made_kept {w w' : World} (hw : Below (w.alloc (.cells #[] 3)).heap.size (w.alloc (.cells #[] 3)) w') :
    w'.ownsRow w.heap.size 3 1 (.slice (some ⟨w.heap.size, 0, none⟩) 0 0) 0 [] ∧ Below w.heap.size w w' := by
  have o0 : (w.alloc (.cells #[] 3)).ownsRow w.heap.size 3 1 (.slice (some ⟨w.heap.size, 0, none⟩) 0 0) 0 [] := World.ownsRow_made w #[] 0 (Nat.le_refl _) (Nat.zero_le _) rfl
  exact ⟨o0.kept (row := none) ⟨hw.os, hw.tape, hw.output, hw.size, fun i hi _ => hw.block i hi⟩ (.inr (by simp [Value.ownBlock])), below_step ((Below.refl _ _).alloc (Nat.le_refl _) _) hw⟩
/-- Not in b. -/
def notIn (b : List Int) (x : Int) : Bool := !has b x

set_option maxHeartbeats 1600000 in
theorem specMinus_any (A B : Option Addr) (c d : Nat) (a b : List Int) (w : World) (ha : IL w A a) (hb : IL w B b) (hla : a.length ≤ 1048576) (hlb : b.length ≤ 1048576) :
    Calls Try.prog 27 #[.slice A a.length c, .slice B b.length d] w (New w (both minus a b)) := by
  obtain ⟨i0, hi0, hz0, hz1, hz2⟩ := info_parts int_info
  have b0 : Below w.heap.size w (w.alloc (.cells #[] 3)) := (Below.refl _ _).alloc (Nat.le_refl _) _
  cases hva : vld a
  · rw [both_fa hva]
    have HA := Lib.hid hva
    clear hva
    go_enter Try.func27, Try.ntmps27
    go_wp2_with fail
    refine (specValid_f _ _ _ _ (ha.below b0) hla HA.out).mono ?_
    rintro e w1 ⟨rfl, b1⟩
    have HN := Lib.hid (New.mk (l := []) (made_kept b1).1 (made_kept b1).2)
    clear b1 b0
    go_wp2
    go_ret
    exact HN.out
  · have HA := Lib.hid hva
    cases hvb : vld b
    · rw [both_fb hvb]
      have HB := Lib.hid hvb
      clear hva hvb
      go_enter Try.func27, Try.ntmps27
      go_wp2_with fail
      refine (specValid_t _ _ _ _ (ha.below b0) hla HA.out).mono ?_
      rintro e w1 ⟨rfl, b1⟩
      go_wp2_with fail
      refine (specValid_f _ _ _ _ ((hb.below b0).below b1) hlb HB.out).mono ?_
      rintro e w2 ⟨rfl, b2⟩
      have b3 := b1.trans (b2.mono b1.size)
      have HN := Lib.hid (New.mk (l := []) (made_kept b3).1 (made_kept b3).2)
      clear b1 b2 b0 b3
      go_wp2
      go_ret
      exact HN.out
    · rw [both_t hva hvb]
      have HB := Lib.hid hvb
      clear hva hvb
      go_enter Try.func27, Try.ntmps27
      go_wp2_with fail
      refine (specValid_t _ _ _ _ (ha.below b0) hla HA.out).mono ?_
      rintro e w1 ⟨rfl, b1⟩
      go_wp2_with fail
      refine (specValid_t _ _ _ _ ((hb.below b0).below b1) hlb HB.out).mono ?_
      rintro e w2 ⟨rfl, b2⟩
      have b3 := b1.trans (b2.mono b1.size)
      have HN := Lib.hid (made_kept b3)
      clear b1 b2 b0 b3
      go_wp2
      go_loopw [5, 6] (fun v i wr => ∃ k : Nat, k ≤ a.length ∧ i = .int .i64 k ∧ wr.ownsRow w.heap.size 3 1 v (takeF (notIn b) a k).length ((takeF (notIn b) a k).map (Value.int .i64)) ∧ Below w.heap.size w wr) (fun _ i _ => a.length - (intOf i).toNat)
      case atStart => exact ⟨0, by omega, rfl, HN.out.1, HN.out.2⟩
      case round =>
        clear HN
        obtain ⟨k, hk, rfl, hown, hbel⟩ := hrel
        by_cases hlt : k < a.length
        · have hln := takeF_len (notIn b) a k
          have hia := ha.below hbel
          have hib := hb.below hbel
          obtain ⟨bl, off, x, rfl, hx, hc⟩ := hia.at_ hlt
          cases hcb : has b x
          · have HB := Lib.hid hcb
            have HX := Lib.hid hx
            have HP := Lib.hid (show notIn b x = true by simp only [notIn, hcb, Bool.not_false])
            clear hcb hx
            go_wp2_with fail
            refine (l1Contains_f _ _ _ _ _ hib hlb HB.out).mono ?_
            rintro e w' ⟨rfl, rfl⟩
            go_wp2_with (at_builtin; refine wpList_append_own _ rfl (.tmp 30) (.tmp 35) 23 rfl w.heap.size 3 i0 (.int .i64 0) 1 8 Try.underlying23 hi0 hz0 hz1 hz2 rfl (by decide) _ _ _ rfl (hown.alloc _) ⟨wr.heap.size, 0, none⟩ 1 1 [.int .i64 x] rfl rfl (cell_one_new _ _ _) (ints_oneCell .i64 [(x : Int)]) (by unfold maxLen; omega) (by omega) (by have := hbel.size; simp; omega) ?_)
            intro v' w1 hown' hgrow _
            have R := app_one hown hbel hown' hgrow
            rw [← takeF_yes HX.out HP.out] at R
            have HR := Lib.hid R
            clear R hown hown' hgrow hbel hia hib
            go_wp2
            go_roundw
            case rel => exact ⟨k + 1, by omega, by go_num, HR.out.1, HR.out.2⟩
            case measure => simp [intOf]; omega
          · have HB := Lib.hid hcb
            rw [← takeF_no hx (show notIn b x = false by simp only [notIn, hcb, Bool.not_true])] at hown
            have HO := Lib.hid hown
            clear hown hcb hx
            go_wp2_with fail
            refine (l1Contains_t _ _ _ _ _ hib hlb HB.out).mono ?_
            rintro e w' ⟨rfl, rfl⟩
            go_wp2
            go_roundw
            case rel => exact ⟨k + 1, by omega, by go_num, HO.out, hbel⟩
            case measure => simp [intOf]; omega
        · have hkl : k = a.length := by omega
          subst hkl
          rw [takeF_all] at hown
          have HN := Lib.hid (New.mk (l := minus a b) hown hbel)
          clear hown hbel
          go_wp2
          go_ret
          exact HN.out

end Go.Proofs.Ytlbhkeijfcpffaa
