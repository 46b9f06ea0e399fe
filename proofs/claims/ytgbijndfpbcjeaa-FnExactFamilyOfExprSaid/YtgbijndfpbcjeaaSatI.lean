/- Whether a set satisfies a tree, the program's, by its contract. -/
import Derived.Test.YtgbijndfpbcjeaaImplX
namespace Go.Proofs.Ytgbijndfpbcjeaa
open Go.RowKit

theorem m_sat_mem (f : Nat) (a : Addr) (w : World) : (method (f + 1) 125 (.pointer (some a)) "loop.example/flexquorum/impl.satisfiedBy").run Try.prog w = .ok (157, .pointer (some a)) w := by kernel_rfl
theorem m_sat_thr (f : Nat) (a : Addr) (w : World) : (method (f + 1) 108 (.pointer (some a)) "loop.example/flexquorum/impl.satisfiedBy").run Try.prog w = .ok (155, .pointer (some a)) w := by kernel_rfl

set_option maxRecDepth 100000 in
set_option maxHeartbeats 1600000 in
theorem satMem_any (s : Nat) (hs : s < 64) (m b : Nat) (Q : Nat → Prop) (w : World) (hw : wf (.mem m)) (ht : Tr w Q (.mem m) (.iface 125 (.pointer (some ⟨b, 0, none⟩)))) :
    Calls Try.prog 157 #[.pointer (some ⟨b, 0, none⟩), .int .u8 s] w fun e w' => e = .returned (.bool (sat s (.mem m))) ∧ w = w' := by
  simp only [Tr] at ht
  obtain ⟨b', hv, _, hb⟩ := ht
  obtain rfl : b = b' := by injection hv with _ hv; injection hv with hv; injection hv with hv; injection hv
  simp only [wf] at hw
  have c0 : w.cell? ⟨b, 0, none⟩ = some (.int .i64 m) := by rw [cell_of_row w b 0 _ _ (0, 0) hb]; rfl
  have HR := Lib.hid (show Nat.testBit s ((m : Int).toNat - 1) = sat s (.mem m) by simp [sat])
  generalize sat s (.mem m) = R at *
  obtain ⟨hm1, hm6⟩ := hw
  clear hb hv
  go_enter Try.func157, Try.ntmps157
  go_wp2_with (go_at_call 102; refine (contains_in _ _ _ hs (by omega) (by omega)).mono ?_; rintro e w' ⟨rfl, rfl⟩)
  go_ret
  exact ⟨ret_bool HR.out, rfl⟩

set_option maxRecDepth 100000 in
set_option maxHeartbeats 3200000 in
theorem satThr_any (s : Nat) (hs : s < 64) (n : Nat) : ∀ (k : Nat) (es : List Ex) (b : Nat) (Q : Nat → Prop) (w : World), (tx (.thr k es)).length ≤ n → wf (.thr k es) → Tr w Q (.thr k es) (.iface 108 (.pointer (some ⟨b, 0, none⟩))) →
    Calls Try.prog 155 #[.pointer (some ⟨b, 0, none⟩), .int .u8 s] w fun e w' => e = .returned (.bool (sat s (.thr k es))) ∧ w = w' := by
  induction n with
  | zero => intro k es b Q w h; have := tx_pos (.thr k es); omega
  | succ n ih =>
    intro k es b Q w hn hw ht
    simp only [Tr] at ht
    obtain ⟨b', A, c, vs, hv, _, hb, hV, hT⟩ := ht
    obtain rfl : b = b' := by injection hv with _ hv; injection hv with hv; injection hv with hv; injection hv
    have hat : ∀ (j : Nat) (y : Ex), es[j]? = some y → wf y ∧ (tx y).length ≤ n := fun j y h => by
      have h1 := tx_at (k := k) h
      exact ⟨wf_at hw h, by omega⟩
    simp only [wf] at hw
    have c0 : w.cell? ⟨b, 0, none⟩ = some (.int .i64 k) := by rw [cell_of_row w b 0 _ _ (0, 0) hb]; rfl
    have c1 : w.cell? ⟨b, 1, none⟩ = some (.slice A es.length c) := by rw [cell_of_row w b 1 _ _ (0, 0) hb]; rfl
    have HR := Lib.hid (show decide (k ≤ satL s es) = sat s (.thr k es) by simp only [sat])
    generalize sat s (.thr k es) = R at *
    have HA := Lib.hid hat
    have h6 := hw.2.2.1
    have hk6 : k ≤ 6 := by omega
    have HV := Lib.hid hV
    have HT := Lib.hid hT
    clear hb hat hw hV hT hv
    go_enter Try.func155, Try.ntmps155
    go_wp2_with fail
    go_loop [5, 13] (fun h i => ∃ j hv : Nat, j ≤ es.length ∧ i = .int .i64 j ∧ h = .int .i64 hv ∧ hv ≤ j ∧ Hid (hv + satL s (es.drop j) = satL s es)) (fun _ i => es.length - (intOf i).toNat)
    case atStart => exact ⟨0, 0, Nat.zero_le _, rfl, rfl, by omega, Lib.hid (by rw [List.drop_zero]; simp)⟩
    case round =>
      obtain ⟨j, hv, hj, rfl, rfl, hhv, hmx⟩ := hrel
      by_cases hlt : j < es.length
      · obtain ⟨y, u, g, off, hy, rfl, hc, ht⟩ := op_at HV.out HT.out hlt
        obtain ⟨hwy, hyn⟩ := HA.out j y hy
        have hmx' := hmx.out
        rw [drop_c hy] at hmx'
        simp only [satL] at hmx'
        cases y with
        | mem m =>
          have ht' := ht
          simp only [Tr] at ht'
          obtain ⟨b2, rfl, _, _⟩ := ht'
          have hm1 := m_sat_mem
          have HI := Lib.hid (satMem_any s hs m b2 Q w hwy ht)
          cases hsy : sat s (.mem m) with
          | true =>
            rw [hsy] at HI hmx'
            have HM := Lib.hid hmx'
            clear hmx hmx' hy hwy hyn ih ht HA HV HT hsy
            go_wp2_with (go_at_call 157; refine HI.out.mono ?_; rintro e w' ⟨rfl, rfl⟩)
            go_round
            case rel => exact ⟨j + 1, hv + 1, by omega, by go_num, by go_num, by omega, Lib.hid (by have := HM.out; simp at this; omega)⟩
            case measure => simp [intOf]; omega
          | false =>
            rw [hsy] at HI hmx'
            have HM := Lib.hid hmx'
            clear hmx hmx' hy hwy hyn ih ht HA HV HT hsy
            go_wp2_with (go_at_call 157; refine HI.out.mono ?_; rintro e w' ⟨rfl, rfl⟩)
            go_round
            case rel => exact ⟨j + 1, hv, by omega, by go_num, rfl, by omega, Lib.hid (by have := HM.out; simp at this; omega)⟩
            case measure => simp [intOf]; omega
        | thr k2 es2 =>
          have ht' := ht
          simp only [Tr] at ht'
          obtain ⟨b2, _, _, _, rfl, _⟩ := ht'
          have hm1 := m_sat_thr
          have HI := Lib.hid (ih k2 es2 b2 Q w hyn hwy ht)
          cases hsy : sat s (.thr k2 es2) with
          | true =>
            rw [hsy] at HI hmx'
            have HM := Lib.hid hmx'
            clear hmx hmx' hy hwy hyn ih ht HA HV HT hsy
            go_wp2_with (go_at_call 155; refine HI.out.mono ?_; rintro e w' ⟨rfl, rfl⟩)
            go_round
            case rel => exact ⟨j + 1, hv + 1, by omega, by go_num, by go_num, by omega, Lib.hid (by have := HM.out; simp at this; omega)⟩
            case measure => simp [intOf]; omega
          | false =>
            rw [hsy] at HI hmx'
            have HM := Lib.hid hmx'
            clear hmx hmx' hy hwy hyn ih ht HA HV HT hsy
            go_wp2_with (go_at_call 155; refine HI.out.mono ?_; rintro e w' ⟨rfl, rfl⟩)
            go_round
            case rel => exact ⟨j + 1, hv, by omega, by go_num, rfl, by omega, Lib.hid (by have := HM.out; simp at this; omega)⟩
            case measure => simp [intOf]; omega
      · have hE : hv = satL s es := by have := hmx.out; rw [List.drop_of_length_le (by omega)] at this; simpa [satL] using this
        have HE := Lib.hid (show decide (k ≤ hv) = R by rw [← HR.out, hE])
        clear hmx ih HA hE HV HT
        go_wp2_with fail
        go_ret
        exact ⟨ret_bool HE.out, rfl⟩
end Go.Proofs.Ytgbijndfpbcjeaa
