/- The model's dual by its contract. -/
import Derived.Test.YtlmlplbpebfkbaaSpecY
import Derived.Test.YtlmlplbpebfkbaaSem3
namespace Go.Proofs.Ytlmlplbpebfkbaa
open Go.RowKit

set_option maxRecDepth 100000 in
set_option maxHeartbeats 3200000 in
theorem l2Dual_any (n : Nat) : ∀ (x : Ex) (w : World), (tx x).length ≤ n → n ≤ 1000 → wf x →
    Calls Try.prog 48 #[.string (bx x)] w fun e w' => e = .returned (.string (bx (dual x))) ∧ Below w.heap.size w w' := by
  induction n with
  | zero => intro x w h; have := tx_pos x; omega
  | succ n ih =>
    intro x w hn hm hw
    cases x with
    | mem m =>
      have hsz : (bx (.mem m)).size = 1 := by rw [bx_size]; simp [tx]
      rw [show dual (.mem m) = .mem m by simp [dual]]
      generalize bx (.mem m) = T at *
      have hz : ((T.size : Int) == 1) = true := beq_iff_eq.2 (by omega)
      clear ih
      go_enter Try.func48, Try.ntmps48
      go_wp2_with fail
      go_ret
      exact ⟨rfl, Below.refl _ _⟩
    | thr k es =>
      have hw' := hw
      simp only [wf] at hw'
      have hi := idx0 (T := bx (.thr k es)) (b := dg k) (by rw [bx_list]; simp [tx])
      have hbe : ((dg k).toNat : Int) - 48 = (k : Int) := by rw [dg_toNat (show k ≤ 9 by omega)]; omega
      have hbl : 48 ≤ (dg k).toNat ∧ (dg k).toNat ≤ 54 := by rw [dg_toNat (show k ≤ 9 by omega)]; omega
      obtain ⟨hb1, hb2⟩ := hbl
      generalize (dg k).toNat = bn at *
      have hsz : 2 ≤ (bx (.thr k es)).size := by rw [bx_size]; simp [tx]
      have HP := Lib.hid (fun w => l2Parts_any (.thr k es) w hw (by omega))
      have hat : ∀ (j : Nat) (y : Ex), es[j]? = some y → wf y ∧ (tx y).length ≤ n ∧ (tx (dual y)).length ≤ n := fun j y h => by
        have h1 := tx_at (k := k) h
        have h2 := wf_at hw h
        exact ⟨h2, by omega, by rw [dual_len y h2]; omega⟩
      have hdl := dual_len _ hw
      have HR := Lib.hid (show tx (dual (.thr k es)) = dg (es.length - k + 1) :: 40 :: rest (dualL es) 0 by simp [dual, tx, rest])
      have hDl : (tx (dual (.thr k es))).length ≤ 1000 := by omega
      generalize hT : bx (.thr k es) = T at *
      have hz : ((T.size : Int) == 1) = false := beq_eq_false_iff_ne.2 (by omega)
      obtain ⟨hk1, hk2, h6, _⟩ := hw'
      have HA := Lib.hid hat
      have HDL := Lib.hid hDl
      clear hat hw hsz hT hdl hDl
      simp only [ops] at HP
      go_enter Try.func48, Try.ntmps48
      go_wp2_with fail
      refine (HP.out _).mono ?_
      rintro e w1 ⟨AP, cP, rfl, hS, b1⟩
      clear HP
      go_wp2_with fail
      refine (l6Dec_digit _ _ (by omega) (by omega)).mono ?_
      rintro e w2 ⟨rfl, b2⟩
      have hS2 := hS.below b2
      have B2 := below_step b1 b2
      obtain ⟨D, hD⟩ : ∃ D : ByteArray, D = ⟨(dig ((es.length : Int) - (k : Int) + 1)).toArray⟩ := ⟨_, rfl⟩
      have hDd : D.data.toList = [dg (es.length - k + 1)] := by
        rw [hD, show (es.length : Int) - (k : Int) + 1 = ((es.length - k + 1 : Nat) : Int) by omega, dig_dg]
      have hDs : D.size = 1 := by rw [hD]; rfl
      rw [show S (dig ((es.length : Int) - (k : Int) + 1)) = Value.string D by rw [hD]]
      have HDd := Lib.hid hDd
      clear hS b1 b2 hD hDd
      go_wp2_with fail
      go_loopw [4, 5] (fun v i wr => ∃ (j : Nat) (s : ByteArray), j ≤ es.length ∧ i = .int .i64 j ∧ v = .string s ∧ s.size ≤ 1000 ∧ Below w2.heap.size w2 wr ∧ Hid (s.data.toList ++ rest (dualL es) j = tx (dual (.thr k es)))) (fun _ i _ => es.length - (intOf i).toNat)
      case atStart => exact ⟨0, _, Nat.zero_le _, rfl, rfl, by rw [ByteArray.size_append, hDs]; decide, Below.refl _ _, Lib.hid (by rw [HR.out, data_app0, HDd.out]; rfl)⟩
      case round =>
        obtain ⟨j, s, hj, rfl, rfl, hs, hbel, hmx⟩ := hrel
        by_cases hlt : j < es.length
        · obtain ⟨b, off, y, rfl, hy, hc⟩ := (hS2.below hbel).at_ hlt
          obtain ⟨hwy, hyn, hyd⟩ := HA.out j y hy
          have hmx' := hmx.out
          rw [rest_step (dualL_at es j y hy)] at hmx'
          have hlen := congrArg List.length hmx'
          have hdl := HDL.out
          have hss : s.data.toList.length = s.size := by simp
          simp only [List.length_append, hss] at hlen
          have hys : (bx (dual y)).size = (tx (dual y)).length := bx_size _
          have HI := Lib.hid (ih y wr hyn (by omega) hwy)
          have HM := Lib.hid hmx'
          have hyl := Lib.hid (bx_list (dual y))
          clear hmx hmx' hy hwy hyn ih HA HR
          generalize bx y = Y at *
          generalize bx (dual y) = Z at *
          by_cases hj0 : j = 0
          · have hjd : ¬ 0 < j := by omega
            have HJ := Lib.hid hj0
            rw [if_pos hj0] at HM hlen
            clear hj0
            go_wp2_with fail
            refine HI.out.mono ?_
            rintro e w3 ⟨rfl, b3⟩
            have B3 := below_step hbel b3
            clear hbel b3 HI
            go_wp2_with fail
            go_roundw
            case rel => exact ⟨j + 1, _, by omega, by go_num, rfl, by rw [ByteArray.size_append]; omega, B3, Lib.hid (by have := HM.out; rw [data_app0, hyl.out, ← this]; simp)⟩
            case measure => simp [intOf]; omega
          · have hjd : 0 < j := by omega
            rw [if_neg hj0] at HM hlen
            have h44 : (⟨#[44]⟩ : ByteArray).size = 1 := rfl
            simp only [List.length_cons, List.length_nil] at hlen
            clear hj0
            go_wp2_with fail
            refine HI.out.mono ?_
            rintro e w3 ⟨rfl, b3⟩
            have B3 := below_step hbel b3
            clear hbel b3 HI
            go_wp2_with fail
            go_roundw
            case rel => exact ⟨j + 1, _, by omega, by go_num, rfl, by rw [ByteArray.size_append, ByteArray.size_append]; omega, B3, Lib.hid (by have := HM.out; rw [data_app0, data_app0, hyl.out, ← this]; simp)⟩
            case measure => simp [intOf]; omega
        · have hjl : j = es.length := by omega
          subst hjl
          have hE : s.data.toList ++ [41] = tx (dual (.thr k es)) := by
            have := hmx.out
            rwa [show es.length = (dualL es).length by rw [dualL_len], rest_end (by rw [dualL_len]; omega)] at this
          have HE := Lib.hid (show s ++ ⟨#[41]⟩ = bx (dual (.thr k es)) from ext_of (by rw [data_app0]; exact hE))
          have B3 := below_step B2 hbel
          clear hmx hbel ih HA HR hE
          go_wp2_with fail
          go_ret
          exact ⟨by rw [← HE.out]; rfl, B3⟩

/-- The text of the dual, empty for what is no expression. -/
def dualX (T : ByteArray) : ByteArray := match pT0 T with | none => ⟨#[]⟩ | some x => bx (dual x)
set_option maxRecDepth 100000 in
set_option maxHeartbeats 1600000 in
theorem specDualX (T : ByteArray) (w : World) (hT : T.size ≤ 1048576) : Calls Try.prog 27 #[.string T] w fun e w' => e = .returned (.string (dualX T)) ∧ Below w.heap.size w w' := by
  cases hp : pT0 T with
  | none =>
    have HP := Lib.hid (show dualX T = ⟨#[]⟩ by simp [dualX, hp])
    have HC := Lib.hid (specValidX T w hT)
    rw [show okX T = false by simp [okX, hp]] at HC
    clear hp
    go_enter Try.func27, Try.ntmps27
    go_wp2_with (go_at_call 23; refine HC.out.mono ?_; rintro e w' ⟨rfl, rfl⟩)
    go_ret
    exact ⟨by rw [HP.out]; rfl, Below.refl _ _⟩
  | some x =>
    have HP := Lib.hid (show dualX T = bx (dual x) by simp [dualX, hp])
    have HC := Lib.hid (specValidX T w hT)
    rw [show okX T = true by simp [okX, hp]] at HC
    obtain ⟨hx, hw, hl⟩ := bx_of hp
    have HD := Lib.hid (l2Dual_any 40 x w hl (by omega) hw)
    rw [← hx] at HD
    clear hp hw hx
    go_enter Try.func27, Try.ntmps27
    go_wp2_with (go_at_call 23; refine HC.out.mono ?_; rintro e w' ⟨rfl, rfl⟩)
    refine HD.out.mono ?_
    rintro e w1 ⟨rfl, b1⟩
    clear HC HD
    go_wp2_with fail
    go_ret
    exact ⟨by rw [HP.out]; rfl, b1⟩
end Go.Proofs.Ytlmlplbpebfkbaa
