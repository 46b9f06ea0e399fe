/- Duals of texts: the program by its contract, the walk of the exact law. -/
import Derived.Test.YtgbijndfpbcjeaaDualIg
namespace Go.Proofs.Ytgbijndfpbcjeaa
open Go.RowKit

set_option maxRecDepth 100000 in
set_option maxHeartbeats 1600000 in
theorem implDualX (T : ByteArray) (w : World) (hT : T.size ≤ 1048576) : Calls Try.prog 22 #[.string T] w fun e w' => e = .returned (.string (dualX T)) ∧ Below w.heap.size w w' := by
  go_enter Try.func22, Try.ntmps22
  go_wp2_with fail
  refine (parse_any T w hT).mono ?_
  rintro e w1 ⟨b1, ⟨hn, rfl⟩ | ⟨x, v, hs, rfl, ht⟩⟩
  · have HP := Lib.hid (show dualX T = ⟨#[]⟩ by simp [dualX, hn])
    clear hn
    go_wp2_with fail
    go_ret
    exact ⟨by rw [HP.out]; rfl, b1⟩
  · have HP := Lib.hid (show dualX T = bx (dual x) by simp [dualX, hs])
    obtain ⟨_, hw, hl⟩ := bx_of hs
    have ht2 : Tr w1 (fun b => b < w1.heap.size) x v := Tr.keep (Nat.le_refl _) (fun b _ hlt => ⟨hlt, rfl⟩) _ _ ht
    have HC := Lib.hid (dualOf_any 40 x v w1.heap.size w1 hl hw (Nat.le_refl _) ht2)
    have hdw := dual_wf x hw
    have hdl := dual_len x hw
    rw [← hdl] at hl
    clear hs ht ht2 hw hdl
    go_wp2_with fail
    refine HC.out.mono ?_
    rintro e w2 ⟨⟨t, a, rfl, htd⟩, b2⟩
    have B2 := below_step b1 b2
    clear HC b1 b2
    generalize dual x = y at *
    cases y with
    | mem m =>
      have ht' := htd
      simp only [Tr] at ht'
      obtain ⟨b, hv, _, _⟩ := ht'
      injection hv with hv1 hv2
      injection hv2 with hv2
      injection hv2 with hv2
      subst hv1 hv2
      have hm1 := m_fmt_mem
      have HD := Lib.hid (fmtMem_any m b _ w2 hdw htd)
      clear htd hdw
      go_wp2_with (go_at_call 156; refine HD.out.mono ?_; rintro e w' ⟨rfl, rfl⟩)
      go_ret
      exact ⟨by rw [HP.out]; rfl, B2⟩
    | thr k es =>
      have ht' := htd
      simp only [Tr] at ht'
      obtain ⟨b, _, _, _, hv, _⟩ := ht'
      injection hv with hv1 hv2
      injection hv2 with hv2
      injection hv2 with hv2
      subst hv1 hv2
      have hm1 := m_fmt_thr
      have HD := Lib.hid (fmtThr_any 40 k es b _ w2 hl (by omega) hdw htd)
      clear htd hdw
      go_wp2_with fail
      refine HD.out.mono ?_
      rintro e w3 ⟨rfl, b3⟩
      have B3 := below_step B2 b3
      clear HD B2 b3
      go_wp2_with fail
      go_ret
      exact ⟨by rw [HP.out]; rfl, B3⟩

end Go.Proofs.Ytgbijndfpbcjeaa
