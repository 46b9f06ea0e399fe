/- Thresholds over member sets: the model by its contract; the walks of the two laws. -/
import Derived.Test.YtmickonngpkoiaaDoorThrg
import Derived.Deep.RegionHeld3
namespace Go.Proofs.YtmickonngpkoiaaDoor
open Go.RowKit

theorem catT {x y : Nat} (h1 : x = 1) (h2 : y ≤ 13) : ¬ 9223372036854775807 < x + 1 ∧ ¬ 9223372036854775807 < x + 1 + (y - 1 - 1) ∧ ¬ 9223372036854775807 < x + 1 + (y - 1 - 1) + 1 := by omega
theorem dig_size (x : Int) : (⟨(dig x).toArray⟩ : ByteArray).size = 1 := rfl
set_option maxRecDepth 100000 in
set_option maxHeartbeats 3200000 in
theorem specThr (k : Int) (A : Option Addr) (c : Nat) (l : List Int) (w : World) (ha : IL w A l) (hl : l.length ≤ 1048576) :
    Calls Tryd.prog 5 #[.int .i64 k, .slice A l.length c] w fun e w' => e = .returned (.tuple #[.string (thrX k l), .bool (thrOk k l)]) ∧ Below w.heap.size w w' := by
  cases hv : vld l with
  | false =>
    have hok : thrOk k l = false := by simp [thrOk, hv]
    have HX := Lib.hid (show thrX k l = ⟨#[]⟩ by simp [thrX, hok])
    rw [hok]
    have HV := Lib.hid (specValid_f A c l w ha hl hv)
    clear hok hv
    go_enter Tryd.func5, Tryd.ntmps5
    go_wp2_with fail
    refine HV.out.mono ?_
    rintro e w1 ⟨rfl, b1⟩
    go_wp2_with fail
    go_ret2
    exact ⟨by rw [HX.out]; rfl, b1⟩
  | true =>
    have HV := Lib.hid (specValid_t A c l w ha hl hv)
    by_cases hk : 1 ≤ k ∧ k ≤ (l.length : Int)
    · obtain ⟨hk1, hk2⟩ := hk
      have hok : thrOk k l = true := by simp [thrOk, hv, hk1, hk2]
      have hX : thrX k l = bx (.thr k.toNat (exs l)) := by simp [thrX, hok]
      rw [hok]
      obtain ⟨kn, rfl⟩ := Int.eq_ofNat_of_zero_le (show 0 ≤ k by omega)
      rw [Int.toNat_natCast] at hX
      have h6 := vld_len hv
      obtain ⟨f1, f2, f3⟩ := fmt_thr hv (by rintro rfl; simp at hk2; omega)
      obtain ⟨F, hF⟩ : ∃ F : ByteArray, F = ⟨(fmt l).toArray⟩ := ⟨_, rfl⟩
      have hFs : F.size = (fmt l).length := by rw [hF]; show (fmt l).toArray.size = _; simp
      have hFl : F.data.toList = fmt l := by rw [hF]
      rw [← hFs] at f2 f3
      have HE := Lib.hid (show (⟨(dig (kn : Int)).toArray⟩ ++ ⟨#[40]⟩ ++ F.extract 1 (F.size - 1) ++ ⟨#[41]⟩ : ByteArray) = bx (.thr kn (exs l)) from ext_of (by
        rw [data_app0, data_app0, data_app0]
        have e1 : (F.extract 1 (F.size - 1)).data.toList = ((fmt l).drop 1).take ((fmt l).length - 2) := by
          rw [← hFl]
          simp only [ByteArray.data_extract, Array.toList_extract, List.extract_eq_take_drop, hFl, hFs]
          rw [show (fmt l).length - 1 - 1 = (fmt l).length - 2 by omega]
        rw [e1, dig_dg]
        simp only [tx]
        rw [← f1]
        simp))
      have HC := Lib.hid (fun (W : World) (hb : IL W A l) => l1Format_any A c l W hb hv)
      rw [show S (fmt l) = Value.string F by rw [hF]] at HC
      have HX := Lib.hid hX
      have g0 : (0 : Int) ≤ (F.size : Int) - 1 := by omega
      have g1 : (F.size : Int) - 1 ≤ (F.size : Int) := by omega
      have g2 : (1 : Int) ≤ (F.size : Int) - 1 := by omega
      have g3 : IntKind.i64.wrap ((F.size : Int) - 1) = (F.size : Int) - 1 := IntWalk.i64_in _ (by omega)
      clear hok hv hX f1 hF hFs hFl
      go_enter Tryd.func5, Tryd.ntmps5
      go_wp2_with fail
      refine HV.out.mono ?_
      rintro e w1 ⟨rfl, b1⟩
      go_wp2_with (go_at_call 13; refine (l6In_yes _ _ _ _ (by omega) (by omega)).mono ?_; rintro e w' ⟨rfl, rfl⟩)
      refine (HC.out _ (ha.below b1)).mono ?_
      rintro e w2 ⟨rfl, b2⟩
      have B2 := below_step b1 b2
      have HDc := Lib.hid (fun W => l6Dec_digit (kn : Int) W (by omega) (by omega))
      have hDs : (⟨(dig (kn : Int)).toArray⟩ : ByteArray).size = 1 := rfl
      rw [show S (dig (kn : Int)) = Value.string ⟨(dig (kn : Int)).toArray⟩ from rfl] at HDc
      generalize (⟨(dig (kn : Int)).toArray⟩ : ByteArray) = D at *
      have t2 : ¬ 9223372036854775807 < 2 + (F.size - 1 - 1) := by omega
      have t3 : ¬ 9223372036854775807 < 2 + (F.size - 1 - 1) + 1 := by omega
      clear HV HC b1 b2
      go_wp2_with fail
      go_region_held3 (fun w' => Below w.heap.size w w')
        (first | assumption | exact B2.drew | exact below_step B2 b3 | exact below_step B2.drew b3 | fail)
        (first
          | (go_at_call 15; refine (HDc.out _).mono ?_; rintro e w3 ⟨rfl, b3⟩)
          | fail)
      all_goals go_wp2
      all_goals go_ret2
      all_goals exact ⟨by rw [HX.out, ← HE.out]; rfl, by assumption⟩
    · have hok : thrOk k l = false := by
        simp only [thrOk, hv, Bool.true_and]
        by_cases h1 : 1 ≤ k
        · have h2 : ¬ k ≤ (l.length : Int) := fun h => hk ⟨h1, h⟩
          simp [h2]
        · simp [h1]
      have HX := Lib.hid (show thrX k l = ⟨#[]⟩ by simp [thrX, hok])
      rw [hok]
      clear hok hv
      go_enter Tryd.func5, Tryd.ntmps5
      go_wp2_with fail
      refine HV.out.mono ?_
      rintro e w1 ⟨rfl, b1⟩
      go_wp2_with (go_at_call 13; refine (l6In_no _ _ _ _ (by omega)).mono ?_; rintro e w' ⟨rfl, rfl⟩)
      go_ret2
      exact ⟨by rw [HX.out]; rfl, b1⟩
end Go.Proofs.YtmickonngpkoiaaDoor
