/- The reference model's FamilyMinimize, by its contract. -/
import Derived.Test.YtgbijndfpbcjeaaMinS
namespace Go.Proofs.Ytgbijndfpbcjeaa
open Go.RowKit

theorem NewSS2.made {w w1 : World} (hb : Below w.heap.size w w1) : NewSS2 w [] false (.returned (.tuple #[.slice (some ⟨w1.heap.size, 0, none⟩) 0 0, .bool false])) (w1.alloc (.cells #[] 28)) := by
  have h0 : (w1.alloc (.cells #[] 28)).ownsRow w.heap.size 28 1 (.slice (some ⟨w1.heap.size, 0, none⟩) 0 0) 0 [] := World.ownsRow_made w1 #[] 0 hb.size (by unfold maxLen; omega) (by simp)
  exact ⟨_, _, rfl, OSS.of_rows h0 (Rws.nil _ _ _), hb.alloc hb.size _⟩

theorem cell_drew {w w' : World} {a : Addr} {v : Value} (h : Drew w w') (hc : w.cell? a = some v) : w'.cell? a = some v := by
  obtain ⟨n, rfl⟩ := h
  exact hc

set_option maxRecDepth 100000 in
set_option maxHeartbeats 1600000 in
theorem specMin_any (A : Option Addr) (c : Nat) (F : List (List Int)) (w : World) (ha : ISS w A F) (hl : F.length ≤ 1048576) (hs : Short F 1048576) :
    Calls Try.prog 16 #[.slice A F.length c] w (NewSS2 w (minOut F) (minIn F)) := by
  go_enter Try.func16, Try.ntmps16
  go_wp2
  go_loopw [4] (fun i wr => ∃ k : Nat, k ≤ F.length ∧ i = .int .i64 k ∧ Hid (∀ l ∈ F.take k, vld l = true ∧ 0 < msk l) ∧ Drew w wr) (fun i _ => F.length - (intOf i).toNat)
  case atStart => exact ⟨0, Nat.zero_le _, rfl, (by show ∀ _ ∈ _, _; simp), Drew.refl _⟩
  case round =>
    obtain ⟨k, hk, rfl, hfs, hd⟩ := hrel
    by_cases hlt : k < F.length
    · have haw := ha.below hd.below
      obtain ⟨b, off, l, B, d, rfl, hx, hc, hil⟩ := haw.at_ hlt
      have hll := hs.at_ hx
      have HX := Lib.hid hx
      clear hx haw
      have hki : (0 : Int) ≤ (k : Int) := by omega
      have hki2 : (k : Int) < (F.length : Int) := by omega
      cases hv : vld l
      · have H := Lib.hid (minIn_bad HX.out (.inl hv))
        have HV := Lib.hid hv
        clear hv hfs
        go_wp2_with fail
        refine (specValid_drew _ _ _ _ hil hll).mono ?_
        rintro e w1 ⟨he, hd1⟩
        rw [HV.out] at he
        subst he
        have hd2 := hd.trans hd1
        clear hd hd1
        go_wp2
        go_ret2
        rw [minOut, H.out]
        exact NewSS2.made hd2.below
      · have HV := Lib.hid hv
        clear hv
        by_cases h0 : l.length = 0
        · have H := Lib.hid (minIn_bad HX.out (.inr (msk_nil h0)))
          have h0b : ((l.length : Int) == 0) = true := by simp [h0]
          clear hfs h0
          go_wp2_with fail
          refine (specValid_drew _ _ _ _ hil hll).mono ?_
          rintro e w1 ⟨he, hd1⟩
          rw [HV.out] at he
          subst he
          have hd2 := hd.trans hd1
          have hc1 := cell_drew hd1 hc
          clear hd hd1
          go_wp2
          go_ret2
          rw [minOut, H.out]
          exact NewSS2.made hd2.below
        · have h0b : ((l.length : Int) == 0) = false := beq_eq_false_iff_ne.2 (by omega)
          have HF := Lib.hid (show ∀ l ∈ F.take (k + 1), vld l = true ∧ 0 < msk l by
            rw [take_l HX.out]
            intro a ha
            rcases List.mem_append.1 ha with h5 | h5
            · exact hfs.out a h5
            · simp at h5; subst h5; exact ⟨HV.out, msk_pos HV.out h0⟩)
          clear h0 hfs
          go_wp2_with fail
          refine (specValid_drew _ _ _ _ hil hll).mono ?_
          rintro e w1 ⟨he, hd1⟩
          rw [HV.out] at he
          subst he
          have hd2 := hd.trans hd1
          have hc1 := cell_drew hd1 hc
          clear hd hd1
          go_wp2
          go_roundw
          case rel => exact ⟨k + 1, by omega, by go_num, HF.out, hd2⟩
          case measure => simp [intOf]; omega
    · have hkl : k = F.length := by omega
      subst hkl
      have hall : ∀ l ∈ F, vld l = true ∧ 0 < msk l := by have := hfs.out; rwa [List.take_length] at this
      have HA := Lib.hid hall
      clear hfs hall
      by_cases h64 : F.length ≤ 64
      · have H := Lib.hid (show minIn F = true by
          rw [minIn, decide_eq_true h64, Bool.true_and, List.all_eq_true]
          intro l hl
          simp [HA.out l hl])
        go_wp2_with fail
        refine (l1Masks_any _).mono ?_
        rintro e w' ⟨rfl, rfl⟩
        go_wp2_with fail
        refine (l3Min_any _ _ _ _ (ha.below hd.below) hl hs (fun l hl => (HA.out l hl).1)).mono ?_
        rintro e w1 ⟨A1, c1, rfl, o1, b1⟩
        have HR := Lib.hid (show NewSS2 w (minOut F) (minIn F) (.returned (.tuple #[.slice A1 (mems (mins (msks F))).length c1, .bool true])) w1 by
          rw [minOut, H.out]
          exact ⟨A1, c1, rfl, o1.base hd.below.size, below_step hd.below b1⟩)
        clear o1 b1
        go_wp2
        go_ret2
        exact HR.out
      · have H := Lib.hid (show minIn F = false by simp [minIn, h64])
        go_wp2_with fail
        refine (l1Masks_any _).mono ?_
        rintro e w' ⟨rfl, rfl⟩
        go_wp2
        go_ret2
        rw [minOut, H.out]
        exact NewSS2.made hd.below
theorem minOut_len (F : List (List Int)) : (minOut F).length ≤ 64 := by
  unfold minOut
  split
  · rw [mems_len]; exact mins_len _
  · simp
theorem minOut_wt (F : List (List Int)) : wt (minOut F) ≤ 384 := by
  unfold minOut
  split
  · exact Nat.le_trans (mems_wt _) (by have := mins_len (msks F); omega)
  · simp [wt]
theorem minOut_short (F : List (List Int)) : Short (minOut F) 1048576 := by
  unfold minOut
  split
  · exact mems_short _ _ (by omega)
  · intro l hl; cases hl
end Go.Proofs.Ytgbijndfpbcjeaa
