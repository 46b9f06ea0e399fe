/- The model's depth, members and satisfaction by their contracts. -/
import Derived.Test.YtgbijndfpbcjeaaSpecX
namespace Go.Proofs.Ytgbijndfpbcjeaa
open Go.RowKit

def ops : Ex → List Ex
  | .mem _ => []
  | .thr _ es => es
theorem dep_ops (e : Ex) : dep e = depL (ops e) := by cases e <;> simp [dep, ops, depL]
theorem ops_at {e : Ex} {j : Nat} {x : Ex} (hw : wf e) (h : (ops e)[j]? = some x) : wf x ∧ (tx x).length + 2 ≤ (tx e).length := by
  cases e with
  | mem m => simp [ops] at h
  | thr k es => exact ⟨wf_at hw h, tx_at h⟩
theorem ops_len {e : Ex} (hw : wf e) : (ops e).length ≤ 6 := by
  cases e with
  | mem m => simp [ops]
  | thr k es => simp only [wf] at hw; exact hw.2.2.1
theorem l2Parts_any (e : Ex) (w : World) (hw : wf e) (hl : (tx e).length ≤ 1000) : Calls Try.prog 106 #[.string (bx e)] w (Parts w (ops e)) := by
  cases e with
  | mem m => exact l2Parts_mem m w
  | thr k es => exact l2Parts_thr k es w hw hl

theorem idx0 {T : ByteArray} {b : UInt8} (h : T.data.toList[0]? = some b) (w : World) : (Instr.index 9 (.string T) (.int .i64 0)).run Try.prog w = .ok (.int .u8 b.toNat) w := idx (k := 0) h w

set_option maxRecDepth 100000 in
set_option maxHeartbeats 3200000 in
theorem l2Sat_any (s : Nat) (hs : s < 64) (A : Option Addr) (c : Nat) (n : Nat) : ∀ (x : Ex) (w : World), (tx x).length ≤ n → n ≤ 1000 → wf x → IL w A (mem s) →
    Calls Try.prog 96 #[.string (bx x), .slice A (mem s).length c] w fun e w' => e = .returned (.bool (sat s x)) ∧ Below w.heap.size w w' := by
  induction n with
  | zero => intro x w h; have := tx_pos x; omega
  | succ n ih =>
    intro x w hn hm hw hA
    have hml := mem_len s
    cases x with
    | mem m =>
      simp only [wf] at hw
      have hi := idx0 (T := bx (.mem m)) (b := dg m) (by rw [bx_list]; simp [tx])
      have hbe : ((dg m).toNat : Int) - 48 = (m : Int) := by rw [dg_toNat (show m ≤ 9 by omega)]; omega
      have hbl : 48 ≤ (dg m).toNat ∧ (dg m).toNat ≤ 54 := by rw [dg_toNat (show m ≤ 9 by omega)]; omega
      obtain ⟨hb1, hb2⟩ := hbl
      generalize (dg m).toNat = bn at *
      have hsz : (bx (.mem m)).size = 1 := by rw [bx_size]; simp [tx]
      have HR := Lib.hid (show has (mem s) (m : Int) = sat s (.mem m) by simp only [sat]; exact has_mem_bit hs hw.1 hw.2)
      generalize bx (.mem m) = T at *
      generalize sat s (.mem m) = R at *
      have hz : ((T.size : Int) == 1) = true := beq_iff_eq.2 (by omega)
      have HC := Lib.hid (fun w' (h : IL w' A (mem s)) => l1Contains_any A c (mem s) (m : Int) w' h (by omega))
      generalize mem s = l at *
      obtain ⟨hm1, hm6⟩ := hw
      clear ih
      go_enter Try.func96, Try.ntmps96
      go_wp2_with fail
      refine (HC.out _ hA).mono ?_
      rintro e w' ⟨rfl, rfl⟩
      go_wp2_with fail
      go_ret
      exact ⟨ret_bool HR.out, Below.refl _ _⟩
    | thr k es =>
      have hw' := hw
      simp only [wf] at hw'
      have hi := idx0 (T := bx (.thr k es)) (b := dg k) (by rw [bx_list]; simp [tx])
      have hbe : ((dg k).toNat : Int) - 48 = (k : Int) := by rw [dg_toNat (show k ≤ 9 by omega)]; omega
      have hbl : 48 ≤ (dg k).toNat ∧ (dg k).toNat ≤ 54 := by rw [dg_toNat (show k ≤ 9 by omega)]; omega
      obtain ⟨hb1, hb2⟩ := hbl
      generalize (dg k).toNat = bn at *
      have hsz : 2 ≤ (bx (.thr k es)).size := by rw [bx_size]; simp [tx]
      have HP := Lib.hid (fun w => l2Parts_any (.thr k es) w hw (by omega))
      have hat : ∀ (j : Nat) (y : Ex), es[j]? = some y → wf y ∧ (tx y).length ≤ n := fun j y h => by
        have h1 := tx_at (k := k) h
        exact ⟨wf_at hw h, by omega⟩
      have HR := Lib.hid (show decide (k ≤ satL s es) = sat s (.thr k es) by simp only [sat])
      generalize bx (.thr k es) = T at *
      generalize sat s (.thr k es) = R at *
      have hz : ((T.size : Int) == 1) = false := beq_eq_false_iff_ne.2 (by omega)
      obtain ⟨hk1, hk2, h6, _⟩ := hw'
      have HA := Lib.hid hat
      have hsl := satL_le s es
      clear hat hw hsz
      simp only [ops] at HP
      go_enter Try.func96, Try.ntmps96
      go_wp2_with fail
      refine (HP.out _).mono ?_
      rintro e w1 ⟨AP, cP, rfl, hS, b1⟩
      have hA1 := hA.below b1
      clear HP hA
      go_wp2_with fail
      go_loopw [7, 8] (fun h i wr => ∃ j hv : Nat, j ≤ es.length ∧ i = .int .i64 j ∧ h = .int .i64 hv ∧ hv ≤ j ∧ Below w1.heap.size w1 wr ∧ Hid (hv + satL s (es.drop j) = satL s es)) (fun _ i _ => es.length - (intOf i).toNat)
      case atStart => exact ⟨0, 0, Nat.zero_le _, rfl, rfl, Nat.zero_le _, Below.refl _ _, Lib.hid (by rw [List.drop_zero]; simp)⟩
      case round =>
        obtain ⟨j, hv, hj, rfl, rfl, hhv, hbel, hmx⟩ := hrel
        by_cases hlt : j < es.length
        · obtain ⟨b, off, y, rfl, hy, hc⟩ := (hS.below hbel).at_ hlt
          obtain ⟨hwy, hyn⟩ := HA.out j y hy
          have hmx' := hmx.out
          rw [drop_c hy] at hmx'
          simp only [satL] at hmx'
          have HI := Lib.hid (ih y wr hyn (by omega) hwy (hA1.below hbel))
          have HM := Lib.hid hmx'
          clear hmx hmx' hy hwy hyn ih
          generalize bx y = Y at *
          cases hsy : sat s y with
          | true =>
            rw [hsy] at HI HM
            go_wp2_with fail
            refine HI.out.mono ?_
            rintro e w2 ⟨rfl, b2⟩
            have b3 := below_step hbel b2
            clear hbel b2 HI
            go_wp2_with fail
            go_roundw
            case rel => exact ⟨j + 1, hv + 1, by omega, by go_num, by go_num, by omega, b3, Lib.hid (by have := HM.out; simp at this; omega)⟩
            case measure => simp [intOf]; omega
          | false =>
            rw [hsy] at HI HM
            go_wp2_with fail
            refine HI.out.mono ?_
            rintro e w2 ⟨rfl, b2⟩
            have b3 := below_step hbel b2
            clear hbel b2 HI
            go_wp2_with fail
            go_roundw
            case rel => exact ⟨j + 1, hv, by omega, by go_num, rfl, by omega, b3, Lib.hid (by have := HM.out; simp at this; omega)⟩
            case measure => simp [intOf]; omega
        · have hE : hv = satL s es := by have := hmx.out; rw [List.drop_of_length_le (by omega)] at this; simpa [satL] using this
          have HE := Lib.hid (show decide (k ≤ hv) = R by rw [← HR.out, hE])
          have b3 := below_step b1 hbel
          clear hmx hbel ih HA hE
          go_wp2_with fail
          go_ret
          exact ⟨ret_bool HE.out, b3⟩

theorem one_new (w : World) (x : Int) : New w [x] (.returned (.slice (some ⟨w.heap.size, 0, none⟩) 1 1)) (w.alloc (.cells #[.int .i64 x] 3)) :=
  ⟨_, 1, rfl, ⟨rfl, .inr ⟨w.heap.size, 1, _, rfl, Nat.le_refl _, heap_alloc_new w _, Nat.le_refl _, by unfold maxLen; omega, rfl, rfl⟩⟩, (Below.refl _ _).alloc (Nat.le_refl _) _⟩
end Go.Proofs.Ytgbijndfpbcjeaa
