/- Weighted votes, the reference model's, by their contracts. -/
import Derived.Test.YtmpcnefmlnkkjaaDoorGd
import Derived.Test.YtmpcnefmlnkkjaaDoorGa
import Derived.Laws.ResultCell
namespace Go.Proofs.YtmpcnefmlnkkjaaDoor
open Go.RowKit

theorem l6In_yes2 (n a b : Int) (w : World) (h1 : a ≤ n) (h2 : n ≤ b) :
    Calls Tryd.prog 15 #[.int .i64 n, .int .i64 a, .int .i64 b] w fun e w' => e = .returned (.bool true) ∧ w = w' := (l6In_yes n a b w h1 h2).mono fun _ _ h => ⟨h.1, h.2.symm⟩
theorem l6In_no2 (n a b : Int) (w : World) (h : n < a ∨ b < n) :
    Calls Tryd.prog 15 #[.int .i64 n, .int .i64 a, .int .i64 b] w fun e w' => e = .returned (.bool false) ∧ w = w' := (l6In_no n a b w h).mono fun _ _ h => ⟨h.1, h.2.symm⟩
theorem wOk_len {w : List Int} (h : wOk w = true) : 1 ≤ w.length ∧ w.length ≤ 6 := ⟨(wOk_iff.1 h).1, (wOk_iff.1 h).2.1⟩
theorem wOk_bad {w : List Int} {k : Nat} {x : Int} (hx : w[k]? = some x) (h : ¬ (0 ≤ x ∧ x ≤ 9)) : wOk w = false := by
  rw [Bool.eq_false_iff]
  intro h2
  exact h ((wOk_iff.1 h2).2.2 x (List.mem_of_getElem? hx))
def wAll (w : List Int) : Prop := ∀ x ∈ w, 0 ≤ x ∧ x ≤ 9
theorem wAll_take {w : List Int} {k : Nat} {x : Int} (hx : w[k]? = some x) (h : wAll (w.take k)) (h2 : 0 ≤ x ∧ x ≤ 9) : wAll (w.take (k + 1)) := by
  rw [List.take_add_one, hx]
  intro y hy
  rcases List.mem_append.1 hy with h3 | h3
  · exact h y h3
  · simp at h3; subst h3; exact h2

set_option maxRecDepth 100000 in
set_option maxHeartbeats 800000 in
theorem specWV_any (A : Option Addr) (c : Nat) (v : List Int) (w : World) (ha : IL w A v) (hl : v.length ≤ 1048576) :
    Calls Tryd.prog 14 #[.slice A v.length c] w fun e w' => e = .returned (.bool (wOk v)) ∧ w = w' := by
  go_enter Tryd.func14, Tryd.ntmps14
  go_wp2
  go_loop [3] (fun i => ∃ k : Nat, k ≤ v.length ∧ i = .int .i64 k ∧ Hid (wAll (v.take k))) (fun i => v.length - (intOf i).toNat)
  case atStart => exact ⟨0, Nat.zero_le _, rfl, (by show ∀ _ ∈ _, _; simp)⟩
  case round =>
    obtain ⟨k, hk, rfl, hall⟩ := hrel
    by_cases hlt : k < v.length
    · obtain ⟨b, off, x, rfl, hx, hc⟩ := ha.at_ hlt
      have hki : (0 : Int) ≤ (k : Int) := by omega
      have hki2 : (k : Int) < (v.length : Int) := by omega
      by_cases hr : 0 ≤ x ∧ x ≤ 9
      · have H := Lib.hid (wAll_take hx hall.out hr)
        obtain ⟨hr1, hr2⟩ := hr
        clear hx hall
        go_wp2_with fail
        refine (l6In_yes x 0 9 _ hr1 hr2).mono ?_
        rintro e w' ⟨rfl, rfl⟩
        go_wp2
        go_round
        case rel => exact ⟨k + 1, by omega, by go_num, H.out⟩
        case measure => simp [intOf]; omega
      · have H := Lib.hid (wOk_bad hx hr)
        clear hx hall
        go_wp2_with fail
        refine (l6In_no x 0 9 _ (by omega)).mono ?_
        rintro e w' ⟨rfl, rfl⟩
        go_wp2
        go_ret
        exact ⟨ret_bool H.out.symm, rfl⟩
    · have hkl : k = v.length := by omega
      subst hkl
      have HA := Lib.hid (show wAll v by have := hall.out; rwa [List.take_length] at this)
      clear hall
      by_cases hr : 1 ≤ v.length ∧ v.length ≤ 6
      · have H := Lib.hid (wOk_iff.2 ⟨hr.1, hr.2, HA.out⟩)
        go_wp2_with fail
        refine (l6In_yes (v.length : Int) 1 6 _ (by omega) (by omega)).mono ?_
        rintro e w' ⟨rfl, rfl⟩
        go_wp2
        go_ret
        exact ⟨ret_bool H.out.symm, rfl⟩
      · have H := Lib.hid (show wOk v = false by rw [Bool.eq_false_iff]; intro h; exact hr (wOk_len h))
        go_wp2_with fail
        refine (l6In_no (v.length : Int) 1 6 _ (by omega)).mono ?_
        rintro e w' ⟨rfl, rfl⟩
        go_wp2
        go_ret
        exact ⟨ret_bool H.out.symm, rfl⟩

set_option maxRecDepth 100000 in
set_option maxHeartbeats 800000 in
theorem l4Sum_any (A B : Option Addr) (c d : Nat) (v l : List Int) (w : World) (ha : IL w A v) (hb : IL w B l) (hv : wOk v = true) (hl : vld l = true) :
    Calls Tryd.prog 16 #[.slice A v.length c, .slice B l.length d] w fun e w' => e = .returned (.int .i64 (lsum v l)) ∧ w = w' := by
  have HV := Lib.hid hv
  have HL := Lib.hid hl
  have hvl := wOk_len hv
  have hll := vld_len hl
  clear hv hl
  go_enter Tryd.func16, Tryd.ntmps16
  go_wp2
  go_loop [5, 6] (fun s i => ∃ (k : Nat) (t : Int), k ≤ l.length ∧ i = .int .i64 k ∧ s = .int .i64 t ∧ Hid (lsum v (l.take k) = t)) (fun _ i => l.length - (intOf i).toNat)
  case atStart => exact ⟨0, 0, Nat.zero_le _, rfl, rfl, (by show _ = _; simp [lsum])⟩
  case round =>
    obtain ⟨k, t, hk, rfl, rfl, hsum⟩ := hrel
    have ht : 0 ≤ t ∧ t ≤ 54 := by rw [← hsum.out]; exact lsum_rng6 HV.out hll k
    by_cases hlt : k < l.length
    · obtain ⟨b, off, x, rfl, hx, hc⟩ := hb.at_ hlt
      have hx6 := vld_at HL.out hx
      have hki : (0 : Int) ≤ (k : Int) := by omega
      have hki2 : (k : Int) < (l.length : Int) := by omega
      have hw9 := wat_rng HV.out x
      have HS := Lib.hid (show lsum v (l.take (k + 1)) = t + wat v x by rw [lsum_take hx, hsum.out])
      clear hx hsum
      by_cases hxl : x ≤ (v.length : Int)
      · obtain ⟨b', off', y, rfl, hy, hc'⟩ := ha.at_ (k := x.toNat - 1) (by omega)
        have hwy : wat v x = y := vt_some hy
        rw [hwy] at HS hw9
        have hxn : ((x.toNat - 1 : Nat) : Int) = x - 1 := by omega
        have hx1 : (x - 1).toNat = x.toNat - 1 := by omega
        have hx2 : (0 : Int) ≤ x - 1 := by omega
        have hx3 : x - 1 < (v.length : Int) := by omega
        clear hwy hy
        go_wp2
        go_round
        case rel => exact ⟨k + 1, t + y, by omega, by go_num, by go_num, HS.out⟩
        case measure => simp [intOf]; omega
      · have hwy : wat v x = 0 := vt_none (by omega)
        rw [hwy] at HS
        clear hwy
        go_wp2
        go_round
        case rel => exact ⟨k + 1, t, by omega, by go_num, rfl, by have := HS.out; show _ = _; omega⟩
        case measure => simp [intOf]; omega
    · have hkl : k = l.length := by omega
      subst hkl
      have H := Lib.hid (show lsum v l = t by have := hsum.out; rwa [List.take_length] at this)
      clear hsum
      go_wp2
      go_ret
      exact ⟨ret_int H.out.symm, rfl⟩

set_option maxRecDepth 100000 in
set_option maxHeartbeats 1600000 in
theorem specWFam_any (A : Option Addr) (c : Nat) (v : List Int) (n : Int) (w : World) (ha : IL w A v) (hlv : v.length ≤ 1048576) :
    Calls Tryd.prog 5 #[.slice A v.length c, .int .i64 n] w (NewSS2 w (outM (enoL v n) (wfOk v n)) (wfOk v n)) := by
  obtain ⟨i0, hi0, hz0, hz1, hz2⟩ := info_parts slice_info
  cases hv : wOk v
  · have HV := Lib.hid hv
    have HB := Lib.hid (show wfOk v n = false by simp [wfOk, hv])
    clear hv
    go_enter Tryd.func5, Tryd.ntmps5
    go_wp2_with fail
    refine (specWV_any _ _ _ _ ha hlv).mono ?_
    rintro e w' ⟨he, rfl⟩
    rw [HV.out] at he
    subst he
    go_wp2
    go_ret2
    rw [HB.out, outM]
    exact NewSS2.made (Below.refl _ _)
  · have HV := Lib.hid hv
    have HW : Hid (lsum v (mem 63) = wsum v 63) := Lib.hid rfl
    clear hv
    by_cases hn : 1 ≤ n ∧ n ≤ wsum v 63
    · have HB := Lib.hid (show wfOk v n = true by simp [wfOk, HV.out, hn.1, hn.2])
      have HN := Lib.hid hn
      clear hn
      obtain ⟨p, hp⟩ : ∃ p, p = eno v n := ⟨_, rfl⟩
      have HT := Lib.hid (show (List.range 64).filter p = enoL v n by rw [hp]; rfl)
      have HP := Lib.hid (show ∀ k, p k = decide (n ≤ lsum v (mem k)) by intro k; rw [hp]; rfl)
      clear hp
      go_enter Tryd.func5, Tryd.ntmps5
      go_wp2_with fail
      refine (specWV_any _ _ _ _ ha hlv).mono ?_
      rintro e w' ⟨he, rfl⟩
      rw [HV.out] at he
      subst he
      go_wp2_with fail
      refine (l1Masks_any _).mono ?_
      rintro e w' ⟨rfl, rfl⟩
      go_wp2_with fail
      refine (l1OfMask_any 63 _ (by omega)).mono ?_
      rintro e w1 ⟨A1, c1, rfl, o1, b1⟩
      have hil := (IL.of_own o1).1
      clear o1
      go_wp2_with fail
      refine (l4Sum_any _ _ _ _ _ _ _ (ha.below b1) hil HV.out (vld_mem (by omega))).mono ?_
      rintro e w' ⟨he, rfl⟩
      rw [HW.out] at he
      subst he
      generalize wsum v 63 = t at *
      go_wp2_with fail
      refine (l6In_yes2 n 1 t _ HN.out.1 HN.out.2).mono ?_
      rintro e w' ⟨rfl, rfl⟩
      have h00 : (w1.alloc (.cells #[] 23)).ownsRow w.heap.size 23 1 (.slice (some ⟨w1.heap.size, 0, none⟩) 0 0) 0 [] := World.ownsRow_made w1 #[] 0 b1.size (by unfold maxLen; omega) (by simp)
      have H00 := Lib.hid (And.intro h00 (b1.alloc b1.size (.cells #[] 23)))
      clear h00 b1 hil HW
      go_wp2
      go_loopw [6, 7] (fun u i wr => ∃ (k : Nat) (rs : List Value) (A5 : Option Addr) (c5 : Nat), k ≤ 64 ∧ i = .int .i64 k ∧ u = .slice A5 rs.length c5 ∧ rs.length ≤ k ∧ wr.ownsRow w.heap.size 23 1 (.slice A5 rs.length c5) rs.length rs ∧ Hid (Rws wr w.heap.size wr.heap.size (mems ((List.range k).filter p)) rs) ∧ Below w.heap.size w wr) (fun _ i _ => 64 - (intOf i).toNat)
      case atStart => exact ⟨0, [], _, _, by omega, rfl, rfl, by simp, H00.out.1, Rws.nil _ _ _, H00.out.2⟩
      case round =>
        clear H00
        obtain ⟨k, rs, A5, c5, hk, rfl, rfl, hrl, hown, hrows, hbel⟩ := hrel
        by_cases hlt : k < 64
        · go_wp2_with fail
          refine (l1Masks_any _).mono ?_
          rintro e w' ⟨rfl, rfl⟩
          go_wp2_with fail
          refine (l1OfMask_any k _ hlt).mono ?_
          rintro e w3 ⟨A2, c2, rfl, o2, b23⟩
          have hil2 := (IL.of_own o2).1
          have hml := mem_len k
          have hb2 := below_step hbel b23
          clear o2
          go_wp2_with fail
          refine (l4Sum_any _ _ _ _ _ _ _ (ha.below hb2) hil2 HV.out (vld_mem hlt)).mono ?_
          rintro e w' ⟨rfl, rfl⟩
          have hown3 := own_at hown (w' := w3) fun g hg => b23.block g (hown.lt g hg).2
          have HR3 := Lib.hid (hrows.out.below (Nat.le_refl _) b23)
          have hb3 := below_step hbel b23
          have hq : w.heap.size ≤ wr.heap.size ∧ wr.heap.size ≤ w3.heap.size := ⟨hbel.size, b23.size⟩
          clear hown hrows hb2 hil2
          have HE := HP.out k
          generalize lsum v (mem k) = sk at *
          by_cases hsk : n ≤ sk
          · have HPK := Lib.hid (show p k = true by rw [HE]; simp [hsk])
            clear HE hbel b23
            have HR3' := Lib.hid (Rws.hi_le HR3.out hq.2 (Nat.le_refl _))
            clear HR3
            go_wp2_with fail
            refine (l1OfMask_any k _ hlt).mono ?_
            rintro e w4 ⟨A4, c4, rfl, o4, b4⟩
            have hown4 := own_at hown3 (w' := w4) fun g hg => b4.block g (hown3.lt g hg).2
            have hb4 := below_step hb3 b4
            have HR4 := Lib.hid (And.intro (HR3'.out.below (Nat.le_refl _) b4) (show RowAt w4 w3.heap.size w4.heap.size (mem k) (.slice A4 (mem k).length c4) from ⟨_, _, rfl, Own.of_new o4⟩))
            have hq4 : w.heap.size ≤ w3.heap.size ∧ w3.heap.size ≤ w4.heap.size := ⟨by omega, b4.size⟩
            clear hown3 HR3' hb3 b4 o4
            go_wp2_with (at_builtin; refine wpList_append_own _ rfl (.tmp 34) (.tmp 37) 26 rfl w.heap.size 23 i0 (.slice none 0 0) 1 24 Tryd.underlying26 hi0 hz0 hz1 hz2 rfl (by decide) _ _ _ rfl (hown4.alloc _) ⟨w4.heap.size, 0, none⟩ 1 1 [.slice A4 (mem k).length c4] rfl rfl (cell_one_new _ _ _) (slice_oneCell _ _ _) (by unfold maxLen; omega) (by omega) (by simp; omega) ?_)
            intro v5 w5 hown5 hgrow5 _
            have R := Lib.hid (show ∃ rs' A6 c6, v5 = Value.slice A6 (List.length rs') c6 ∧ rs'.length = rs.length + 1 ∧ w5.ownsRow w.heap.size 23 1 (.slice A6 (List.length rs') c6) (List.length rs') rs' ∧ Rws w5 w.heap.size w5.heap.size (mems ((List.range (k + 1)).filter p)) rs' ∧ Below w.heap.size w w5 by
              have h3 : w5.ownsRow w.heap.size 23 1 v5 (rs ++ [Value.slice A4 (mem k).length c4]).length (rs ++ [Value.slice A4 (mem k).length c4]) := by simpa using hown5
              obtain ⟨A6, c6, h4⟩ := own_slice h3
              refine ⟨_, A6, c6, h4, by simp, by rw [← h4]; exact h3, ?_, app_gen hown4 (Nat.le_refl _) hb4 hgrow5⟩
              rw [mems_range_yes HPK.out]
              exact rows_app HR4.out.1 HR4.out.2 (Nat.le_refl _) hq4.1 hq4.2 hown4 hgrow5)
            obtain ⟨rs', A6, c6, rfl, hrl', R2⟩ := R.out
            have HR2 := Lib.hid R2
            clear R R2 hown5 hgrow5 hown4 HR4 hb4
            go_wp2
            go_roundw
            case rel => exact ⟨k + 1, rs', A6, c6, by omega, by go_num, rfl, by omega, HR2.out.1, HR2.out.2.1, HR2.out.2.2⟩
            case measure => simp [intOf]; omega
          · have HPK := Lib.hid (show p k = false by rw [HE]; simp [hsk])
            have R := Lib.hid (show w3.ownsRow w.heap.size 23 1 (.slice A5 rs.length c5) rs.length rs ∧ Rws w3 w.heap.size w3.heap.size (mems ((List.range (k + 1)).filter p)) rs ∧ Below w.heap.size w w3 by
              refine ⟨hown3, ?_, hb3⟩
              rw [mems_range_no HPK.out]
              exact Rws.hi_le HR3.out hq.2 (Nat.le_refl _))
            clear hown3 HR3 hb3 b23 hbel HE
            go_wp2
            go_roundw
            case rel => exact ⟨k + 1, rs, A5, c5, by omega, by go_num, rfl, by omega, R.out.1, R.out.2.1, R.out.2.2⟩
            case measure => simp [intOf]; omega
        · have hkl : k = 64 := by omega
          subst hkl
          have h1 := hrows.out
          have hrl2 : rs.length = (mems ((List.range 64).filter p)).length := h1.1
          have hiss : ISS wr A5 (mems ((List.range 64).filter p)) := by
            rw [hrl2] at hown
            exact h1.iss hown fun _ _ h => h
          rw [hrl2]
          have HU := Lib.hid (filter_allV p)
          have HM := Lib.hid (msks_filter p)
          have hsh := mems_short ((List.range 64).filter p) 1048576 (by omega)
          have hlen : (mems ((List.range 64).filter p)).length ≤ 1048576 := by omega
          clear hown hrows h1 hrl2
          generalize mems ((List.range 64).filter p) = U at *
          go_wp2_with fail
          refine (l1Masks_any _).mono ?_
          rintro e w' ⟨rfl, rfl⟩
          go_wp2_with fail
          refine (l3Min_any _ _ _ _ hiss hlen hsh HU.out).mono ?_
          rintro e w5 ⟨A7, c7, rfl, o7, b7⟩
          have HR := Lib.hid (show NewSS2 w (outM (enoL v n) (wfOk v n)) (wfOk v n) (.returned (.tuple #[.slice A7 (mems (mins (msks U))).length c7, .bool true])) w5 by
            rw [HM.out, HT.out] at *
            rw [HB.out, outM]
            exact ⟨A7, c7, rfl, o7.base hbel.size, below_step hbel b7⟩)
          clear o7 b7
          go_wp2
          go_ret2
          exact HR.out
    · have HB := Lib.hid (show wfOk v n = false by
        rw [Bool.eq_false_iff]
        intro h
        simp only [wfOk, Bool.and_eq_true, decide_eq_true_eq] at h
        exact hn ⟨h.1.2, h.2⟩)
      have hn' : n < 1 ∨ wsum v 63 < n := by omega
      have HN := Lib.hid hn'
      clear hn hn'
      go_enter Tryd.func5, Tryd.ntmps5
      go_wp2_with fail
      refine (specWV_any _ _ _ _ ha hlv).mono ?_
      rintro e w' ⟨he, rfl⟩
      rw [HV.out] at he
      subst he
      go_wp2_with fail
      refine (l1Masks_any _).mono ?_
      rintro e w' ⟨rfl, rfl⟩
      go_wp2_with fail
      refine (l1OfMask_any 63 _ (by omega)).mono ?_
      rintro e w1 ⟨A1, c1, rfl, o1, b1⟩
      have hil := (IL.of_own o1).1
      clear o1
      go_wp2_with fail
      refine (l4Sum_any _ _ _ _ _ _ _ (ha.below b1) hil HV.out (vld_mem (by omega))).mono ?_
      rintro e w' ⟨he, rfl⟩
      rw [HW.out] at he
      subst he
      generalize wsum v 63 = t at *
      go_wp2_with fail
      refine (l6In_no2 n 1 t _ HN.out).mono ?_
      rintro e w' ⟨rfl, rfl⟩
      go_wp2
      go_ret2
      rw [HB.out, outM]
      exact NewSS2.made b1
end Go.Proofs.YtmpcnefmlnkkjaaDoor

/- Weighted votes, the program's, by their contracts. -/
namespace Go.Proofs.YtmpcnefmlnkkjaaDoor
open Go.RowKit

/-- The votes of the first k members, the others' as 0. -/
def vk (v : List Int) (k j : Nat) : Int := if j < k then vt v j else 0
/-- A vote assignment in memory, and as a value. -/
def VB (w : World) (b m : Nat) (u : Nat → Int) : Prop :=
  w.heap[b]? = some (.cells #[.int .u8 (m : Int), .int .i64 (u 0), .int .i64 (u 1), .int .i64 (u 2), .int .i64 (u 3), .int .i64 (u 4), .int .i64 (u 5)] 48 (0, 0))
def VV (m : Nat) (u : Nat → Int) : Value := .agg #[.int .u8 (m : Int), .int .i64 (u 0), .int .i64 (u 1), .int .i64 (u 2), .int .i64 (u 3), .int .i64 (u 4), .int .i64 (u 5)]
section
variable {w w' : World} {b m : Nat} {u : Nat → Int}
theorem VB.lt (h : VB w b m u) : b < w.heap.size := (Array.getElem?_eq_some_iff.1 h).1
theorem VB.fz (h : VB w b m u) (j : Nat) : w.frozen? ⟨b, j, none⟩ = false := frozen_of_row w b j _ _ h
theorem VB.c0 (h : VB w b m u) : w.cell? ⟨b, 0, none⟩ = some (.int .u8 (m : Int)) := by rw [cell_of_row w b 0 _ _ (0, 0) h]; rfl
theorem VB.c1 (h : VB w b m u) : w.cell? ⟨b, 1, none⟩ = some (.int .i64 (u 0)) := by rw [cell_of_row w b 1 _ _ (0, 0) h]; rfl
theorem VB.c2 (h : VB w b m u) : w.cell? ⟨b, 2, none⟩ = some (.int .i64 (u 1)) := by rw [cell_of_row w b 2 _ _ (0, 0) h]; rfl
theorem VB.c3 (h : VB w b m u) : w.cell? ⟨b, 3, none⟩ = some (.int .i64 (u 2)) := by rw [cell_of_row w b 3 _ _ (0, 0) h]; rfl
theorem VB.c4 (h : VB w b m u) : w.cell? ⟨b, 4, none⟩ = some (.int .i64 (u 3)) := by rw [cell_of_row w b 4 _ _ (0, 0) h]; rfl
theorem VB.c5 (h : VB w b m u) : w.cell? ⟨b, 5, none⟩ = some (.int .i64 (u 4)) := by rw [cell_of_row w b 5 _ _ (0, 0) h]; rfl
theorem VB.c6 (h : VB w b m u) : w.cell? ⟨b, 6, none⟩ = some (.int .i64 (u 5)) := by rw [cell_of_row w b 6 _ _ (0, 0) h]; rfl
theorem VB.at_ (h : VB w b m u) {j : Nat} (hj : j < 6) : w.cell? ⟨b, 1 + j, none⟩ = some (.int .i64 (u j)) := by
  have : j = 0 ∨ j = 1 ∨ j = 2 ∨ j = 3 ∨ j = 4 ∨ j = 5 := by omega
  rcases this with rfl | rfl | rfl | rfl | rfl | rfl
  · exact h.c1
  · exact h.c2
  · exact h.c3
  · exact h.c4
  · exact h.c5
  · exact h.c6
theorem VB.kept (h : VB w b m u) (hb : w'.heap[b]? = w.heap[b]?) : VB w' b m u := hb.trans h
theorem VB.below (h : VB w b m u) (hb : Below w.heap.size w w') : VB w' b m u := h.kept (hb.block b h.lt)
theorem VB.set0 (h : VB w b m u) (m' : Nat) : VB (w.setCell ⟨b, 0, none⟩ (.int .u8 (m' : Int))) b m' u := by
  unfold VB
  rw [heap_setCell_same w b 0 _ _ _ h]
  rfl
theorem VB.set1 (h : VB w b m u) {k : Nat} (hk : k < 6) (x : Int) : VB (w.setCell ⟨b, 1 + k, none⟩ (.int .i64 x)) b m (fun j => if j = k then x else u j) := by
  unfold VB
  rw [heap_setCell_same w b (1 + k) _ _ _ h]
  have : k = 0 ∨ k = 1 ∨ k = 2 ∨ k = 3 ∨ k = 4 ∨ k = 5 := by omega
  rcases this with rfl | rfl | rfl | rfl | rfl | rfl <;> rfl
end
theorem vk_next {v : List Int} {k : Nat} {x : Int} (hx : v[k]? = some x) : (fun j => if j = k then x else vk v k j) = vk v (k + 1) := by
  funext j
  unfold vk
  by_cases e : j = k
  · subst e
    simp [vt_some hx]
  · have : (j < k + 1) ↔ j < k := by omega
    simp [e, this]
theorem vk_zero {v : List Int} {k : Nat} (hx : v[k]? = some 0) : vk v k = vk v (k + 1) := by
  funext j
  unfold vk
  by_cases e : j = k
  · subst e
    simp [vt_some hx]
  · have : (j < k + 1) ↔ j < k := by omega
    simp [this]
theorem vk_all {v : List Int} (j : Nat) : vk v v.length j = vt v j := by
  unfold vk
  split
  · rfl
  · exact (vt_none (by omega)).symm
theorem posT_yes {v : List Int} {k : Nat} {x : Int} (hx : v[k]? = some x) (h : 0 < x) : posT v (k + 1) = posT v k ||| 2 ^ k := by
  rw [posT, vt_some hx, if_pos h]
theorem posT_no {v : List Int} {k : Nat} (hx : v[k]? = some 0) : posT v (k + 1) = posT v k := by
  rw [posT, vt_some hx, if_neg (by omega)]

/-- What the reading of a vote assignment hands back. -/
def Votes (w : World) (v : List Int) (e : Ending) (w' : World) : Prop :=
  Below w.heap.size w w' ∧ ((wOk v = false ∧ e = .returned (.tuple #[VV 0 (fun _ => 0), .bool false])) ∨ (wOk v = true ∧ e = .returned (.tuple #[VV (posT v v.length) (vt v), .bool true])))

/-- A whole assignment is written over another. -/
def set7 (w : World) (b m : Nat) (u : Nat → Int) : World := ((((((((w.setCell ⟨b, 0, none⟩ (.int .u8 (m : Int))).setCell ⟨b, 1, none⟩ (.int .i64 (u 0))).setCell ⟨b, 2, none⟩ (.int .i64 (u 1))).setCell ⟨b, 3, none⟩ (.int .i64 (u 2))).setCell ⟨b, 4, none⟩ (.int .i64 (u 3))).setCell ⟨b, 5, none⟩ (.int .i64 (u 4))).setCell ⟨b, 6, none⟩ (.int .i64 (u 5))))
theorem VB.set7 {w : World} {b m0 : Nat} {u0 : Nat → Int} (h : VB w b m0 u0) (m : Nat) (u : Nat → Int) : VB (set7 w b m u) b m u := by
  have h6 := (((((((h.set0 m).set1 (k := 0) (by omega) (u 0)).set1 (k := 1) (by omega) (u 1)).set1 (k := 2) (by omega) (u 2)).set1 (k := 3) (by omega) (u 3)).set1 (k := 4) (by omega) (u 4)).set1 (k := 5) (by omega) (u 5))
  unfold VB at h6 ⊢
  exact h6
theorem set7_below {a w : World} {B b : Nat} (h : Below B a w) (hb : B ≤ b) (m : Nat) (u : Nat → Int) : Below B a (set7 w b m u) :=
  ((((((h.setCell hb _).setCell hb _).setCell hb _).setCell hb _).setCell hb _).setCell hb _).setCell hb _
theorem VB.new (w : World) : VB (w.alloc (.cells #[.int .u8 0, .int .i64 0, .int .i64 0, .int .i64 0, .int .i64 0, .int .i64 0, .int .i64 0] 48)) w.heap.size 0 (fun _ => 0) := heap_alloc_new w _
theorem res_votes {W : World} {b m : Nat} {u : Nat → Int} {ok : Bool} (tmps : Array Value) (h2 : tmps.getD 2 undef = .pointer (some ⟨b, 0, none⟩)) (h3 : tmps.getD 3 undef = .bool ok) (h : VB W b m u) :
    (results Tryd.f20 tmps).run Tryd.prog W = .ok (.tuple #[VV m u, .bool ok]) W := by
  have q0 := h.c0
  have q1 := h.c1
  have q2 := h.c2
  have q3 := h.c3
  have q4 := h.c4
  have q5 := h.c5
  have q6 := h.c6
  rw [results_cell_tmp rfl, h2, h3]
  go_simp
  rfl
/-- Where the reading begins: the result's place and the assignment, both empty. -/
def wv0 (w : World) : World := (w.alloc (.cells #[.int .u8 0, .int .i64 0, .int .i64 0, .int .i64 0, .int .i64 0, .int .i64 0, .int .i64 0] 48)).alloc (.cells #[.int .u8 0, .int .i64 0, .int .i64 0, .int .i64 0, .int .i64 0, .int .i64 0, .int .i64 0] 48)
theorem wv0_facts (w : World) (v : List Int) : VB (wv0 w) w.heap.size 0 (fun _ => 0) ∧ VB (wv0 w) (w.heap.size + 1) (posT v 0) (vk v 0) ∧ Below w.heap.size w (wv0 w) := by
  unfold wv0
  refine ⟨?_, ?_, ((Below.refl _ w).alloc (Nat.le_refl _) _).alloc (by simp) _⟩
  · exact (Below.heap_alloc (w.alloc _) _ _ (by simp)).trans (heap_alloc_new w _)
  · have := heap_alloc_new (w.alloc (.cells #[.int .u8 0, .int .i64 0, .int .i64 0, .int .i64 0, .int .i64 0, .int .i64 0, .int .i64 0] 48)) (.cells #[.int .u8 0, .int .i64 0, .int .i64 0, .int .i64 0, .int .i64 0, .int .i64 0, .int .i64 0] 48)
    rw [World.size_alloc] at this
    exact this

set_option maxRecDepth 100000 in
set_option maxHeartbeats 1600000 in
theorem votesOf_any (A : Option Addr) (c : Nat) (v : List Int) (w : World) (ha : IL w A v) (hl : v.length ≤ 1048576) :
    Calls Tryd.prog 20 #[.slice A v.length c] w (Votes w v) := by
  by_cases hr : 1 ≤ v.length ∧ v.length ≤ 6
  · have H00 := Lib.hid (wv0_facts w v)
    obtain ⟨hr1, hr6⟩ := hr
    go_enter Tryd.func20, Tryd.ntmps20
    go_wp2
    go_loopw [18] (fun i wr => ∃ k : Nat, k ≤ v.length ∧ i = .int .i64 k ∧ VB wr w.heap.size 0 (fun _ => 0) ∧ VB wr (w.heap.size + 1) (posT v k) (vk v k) ∧ Hid (wAll (v.take k)) ∧ Below w.heap.size w wr) (fun i _ => v.length - (intOf i).toNat)
    case atStart => exact ⟨0, Nat.zero_le _, rfl, H00.out.1, H00.out.2.1, (by show ∀ _ ∈ _, _; simp), H00.out.2.2⟩
    case round =>
      clear H00
      obtain ⟨k, hk, rfl, hz, hvb, hall, hbel⟩ := hrel
      by_cases hlt : k < v.length
      · obtain ⟨b, off, x, rfl, hx, hc⟩ := (ha.below hbel).at_ hlt
        have hki : (0 : Int) ≤ (k : Int) := by omega
        have hki2 : (k : Int) < (v.length : Int) := by omega
        by_cases hx9 : 0 ≤ x ∧ x ≤ 9
        · have HA := Lib.hid (wAll_take hx hall.out hx9)
          clear hall
          obtain ⟨hx0, hx9⟩ := hx9
          by_cases hp : 0 < x
          · have HP := Lib.hid (And.intro (posT_yes hx hp) (vk_next hx))
            have q0 := hvb.c0
            have z0 := hvb.fz 0
            have hpl := posT_lt v k (by omega)
            have HX := Lib.hid hx
            clear hx
            go_wp2_with fail
            refine (with_any (posT v k) ((k : Int) + 1) _ hpl (by omega) (by omega)).mono ?_
            rintro e w' ⟨he, rfl⟩
            have hpe : posT v k ||| 2 ^ (((k : Int) + 1).toNat - 1) = posT v (k + 1) := by
              rw [HP.out.1]
              congr 2
            rw [hpe] at he
            subst he
            clear hpe
            have h1 := hvb.set0 (posT v (k + 1))
            have q1 := h1.at_ (j := k) (by omega)
            have z1 := h1.fz (1 + k)
            have H2 := Lib.hid (show VB ((wr.setCell ⟨w.heap.size + 1, 0, none⟩ (.int .u8 ((posT v (k + 1) : Nat) : Int))).setCell ⟨w.heap.size + 1, 1 + k, none⟩ (.int .i64 x)) w.heap.size 0 (fun _ => 0) ∧ VB ((wr.setCell ⟨w.heap.size + 1, 0, none⟩ (.int .u8 ((posT v (k + 1) : Nat) : Int))).setCell ⟨w.heap.size + 1, 1 + k, none⟩ (.int .i64 x)) (w.heap.size + 1) (posT v (k + 1)) (vk v (k + 1)) ∧ Below w.heap.size w ((wr.setCell ⟨w.heap.size + 1, 0, none⟩ (.int .u8 ((posT v (k + 1) : Nat) : Int))).setCell ⟨w.heap.size + 1, 1 + k, none⟩ (.int .i64 x)) by
              refine ⟨?_, ?_, ?_⟩
              · exact (hz.kept (Below.heap_setCell wr _ _ _ (by simp))).kept (Below.heap_setCell _ _ _ _ (by simp))
              · have := h1.set1 (k := k) (by omega) x
                rw [HP.out.2] at this
                exact this
              · exact (hbel.setCell (by simp) _).setCell (by simp) _)
            clear h1 hvb hz hbel HP
            go_wp2
            go_roundw
            case rel => exact ⟨k + 1, by omega, by go_num, H2.out.1, H2.out.2.1, HA.out, H2.out.2.2⟩
            case measure => simp [intOf]; omega
          · have hx00 : x = 0 := by omega
            subst hx00
            have HP := Lib.hid (And.intro (posT_no hx) (vk_zero hx))
            have H2 := Lib.hid (show VB wr (w.heap.size + 1) (posT v (k + 1)) (vk v (k + 1)) by rw [HP.out.1, ← HP.out.2]; exact hvb)
            clear hx hvb HP
            go_wp2
            go_roundw
            case rel => exact ⟨k + 1, by omega, by go_num, hz, H2.out, HA.out, hbel⟩
            case measure => simp [intOf]; omega
        · have H := Lib.hid (wOk_bad hx hx9)
          have q0 := hz.c0
          have q1 := hz.c1
          have q2 := hz.c2
          have q3 := hz.c3
          have q4 := hz.c4
          have q5 := hz.c5
          have q6 := hz.c6
          have z0 := hz.fz 0
          have z1 := hz.fz 1
          have z2 := hz.fz 2
          have z3 := hz.fz 3
          have z4 := hz.fz 4
          have z5 := hz.fz 5
          have z6 := hz.fz 6
          have H7 := Lib.hid (And.intro (hz.set7 0 (fun _ => 0)) (set7_below hbel (Nat.le_refl _) 0 (fun _ => 0)))
          clear hx hall hvb
          by_cases hneg : x < 0
          · go_wp2
            refine bodyPost_ret (res_votes _ rfl rfl H7.out.1) rfl ?_
            exact ⟨H7.out.2, .inl ⟨H.out, rfl⟩⟩
          · go_wp2
            refine bodyPost_ret (res_votes _ rfl rfl H7.out.1) rfl ?_
            exact ⟨H7.out.2, .inl ⟨H.out, rfl⟩⟩
      · have hkl : k = v.length := by omega
        subst hkl
        have hva : vk v v.length = vt v := by funext j; exact vk_all j
        rw [hva] at hvb
        have H := Lib.hid (wOk_iff.2 ⟨hr1, hr6, by have := hall.out; rwa [List.take_length] at this⟩)
        have q0 := hvb.c0
        have q1 := hvb.c1
        have q2 := hvb.c2
        have q3 := hvb.c3
        have q4 := hvb.c4
        have q5 := hvb.c5
        have q6 := hvb.c6
        have z0 := hz.fz 0
        have z1 := hz.fz 1
        have z2 := hz.fz 2
        have z3 := hz.fz 3
        have z4 := hz.fz 4
        have z5 := hz.fz 5
        have z6 := hz.fz 6
        have p0 := hz.c0
        have p1 := hz.c1
        have p2 := hz.c2
        have p3 := hz.c3
        have p4 := hz.c4
        have p5 := hz.c5
        have p6 := hz.c6
        have H7 := Lib.hid (And.intro (hz.set7 (posT v v.length) (vt v)) (set7_below hbel (Nat.le_refl _) (posT v v.length) (vt v)))
        clear hall hva
        go_wp2
        refine bodyPost_ret (res_votes _ rfl rfl H7.out.1) rfl ?_
        exact ⟨H7.out.2, .inr ⟨H.out, rfl⟩⟩
  · have H := Lib.hid (show wOk v = false by rw [Bool.eq_false_iff]; intro h; exact hr (wOk_len h))
    have hz := VB.new w
    have hbel : Below w.heap.size w (w.alloc (.cells #[.int .u8 0, .int .i64 0, .int .i64 0, .int .i64 0, .int .i64 0, .int .i64 0, .int .i64 0] 48)) := (Below.refl _ w).alloc (Nat.le_refl _) _
    by_cases h1 : v.length < 1
    · go_enter Tryd.func20, Tryd.ntmps20
      go_wp2
      refine bodyPost_ret (res_votes _ rfl rfl hz) rfl ?_
      exact ⟨hbel, .inl ⟨H.out, rfl⟩⟩
    · go_enter Tryd.func20, Tryd.ntmps20
      go_wp2
      refine bodyPost_ret (res_votes _ rfl rfl hz) rfl ?_
      exact ⟨hbel, .inl ⟨H.out, rfl⟩⟩
end Go.Proofs.YtmpcnefmlnkkjaaDoor

/- Sums of weighted votes, the program's, by their contracts. -/
namespace Go.Proofs.YtmpcnefmlnkkjaaDoor
open Go.RowKit

theorem VB.newV (w : World) (m : Nat) (u : Nat → Int) : VB (w.alloc (.cells #[.int .u8 (m : Int), .int .i64 (u 0), .int .i64 (u 1), .int .i64 (u 2), .int .i64 (u 3), .int .i64 (u 4), .int .i64 (u 5)] 48)) w.heap.size m u := heap_alloc_new w _

set_option maxRecDepth 100000 in
set_option maxHeartbeats 1600000 in
theorem sum_any (v : List Int) (s : Nat) (w : World) (hv : wOk v = true) (hs : s < 64) :
    Calls Tryd.prog 23 #[VV (posT v v.length) (vt v), .int .u8 s] w fun e w' => e = .returned (.int .i64 (wsum v s)) ∧ Below w.heap.size w w' := by
  have HV := Lib.hid hv
  have hpl := posT_lt v v.length (wOk_len hv).2
  have HS := Lib.hid (wsum_pos hv s)
  have hvb := VB.newV w (posT v v.length) (vt v)
  have hb0 : Below w.heap.size w (w.alloc (.cells #[.int .u8 ((posT v v.length : Nat) : Int), .int .i64 (vt v 0), .int .i64 (vt v 1), .int .i64 (vt v 2), .int .i64 (vt v 3), .int .i64 (vt v 4), .int .i64 (vt v 5)] 48)) := (Below.refl _ w).alloc (Nat.le_refl _) _
  clear hv
  unfold VV
  generalize posT v v.length = pm at *
  go_enter Tryd.func23, Tryd.ntmps23
  go_wp2_with fail
  generalize w.alloc (.cells #[.int .u8 ((pm : Nat) : Int), .int .i64 (vt v 0), .int .i64 (vt v 1), .int .i64 (vt v 2), .int .i64 (vt v 3), .int .i64 (vt v 4), .int .i64 (vt v 5)] 48) = w0 at *
  refine (intersect_bits pm s _ hpl hs).mono ?_
  rintro e w' ⟨rfl, rfl⟩
  have hqs : pm &&& s < 64 := Nat.lt_of_le_of_lt Nat.and_le_left hpl
  have HW : Hid (wsum v (pm &&& s) = lsum v (mem (pm &&& s))) := Lib.hid rfl
  generalize pm &&& s = q at *
  go_wp2_with fail
  refine (members_any q _ hqs).mono ?_
  rintro e w1 ⟨A1, c1, rfl, o1, b1⟩
  have hil := (IL.of_own o1).1
  have hvb1 := hvb.below b1
  have hb1 := below_step hb0 b1
  have hml := mem_len q
  have HL := Lib.hid (vld_mem hqs)
  clear o1 hvb hb0 b1
  generalize hmq : mem q = l at *
  have HMQ := Lib.hid hmq
  clear hmq
  go_wp2
  go_loop [5, 14] (fun s i => ∃ (k : Nat) (t : Int), k ≤ l.length ∧ i = .int .i64 k ∧ s = .int .i64 t ∧ Hid (lsum v (l.take k) = t)) (fun _ i => l.length - (intOf i).toNat)
  case atStart => exact ⟨0, 0, Nat.zero_le _, rfl, rfl, (by show _ = _; simp [lsum])⟩
  case round =>
    obtain ⟨k, t, hk, rfl, rfl, hsum⟩ := hrel
    have ht : 0 ≤ t ∧ t ≤ 54 := by rw [← hsum.out]; exact lsum_rng6 HV.out hml k
    by_cases hlt : k < l.length
    · obtain ⟨b, off, x, rfl, hx, hc⟩ := hil.at_ hlt
      have hx6 := vld_at HL.out hx
      have hki : (0 : Int) ≤ (k : Int) := by omega
      have hki2 : (k : Int) < (l.length : Int) := by omega
      have hw9 := wat_rng HV.out x
      have HS2 := Lib.hid (show lsum v (l.take (k + 1)) = t + wat v x by rw [lsum_take hx, hsum.out])
      have hq := hvb1.at_ (j := x.toNat - 1) (by omega)
      have hwx : vt v (x.toNat - 1) = wat v x := rfl
      rw [hwx] at hq
      have hx1 : (x - 1).toNat = x.toNat - 1 := by omega
      have hx2 : (0 : Int) ≤ x - 1 := by omega
      have hx3 : x - 1 < 6 := by omega
      clear hx hsum hwx
      generalize wat v x = y at *
      go_wp2
      go_round
      case rel => exact ⟨k + 1, t + y, by omega, by go_num, by go_num, HS2.out⟩
      case measure => simp [intOf]; omega
    · have hkl : k = l.length := by omega
      subst hkl
      have H := Lib.hid (show wsum v s = t by rw [← HS.out, HW.out]; have := hsum.out; rwa [List.take_length] at this)
      clear hsum
      go_wp2
      go_ret
      exact ⟨ret_int H.out.symm, hb1⟩

theorem pos_63 {v : List Int} (hv : wOk v = true) : wsum v (posT v v.length) = wsum v 63 := by
  have hp := posT_lt v v.length (wOk_len hv).2
  have H : ∀ a : Fin 64, a.val &&& 63 = a.val := by decide +kernel
  have h1 := H ⟨_, hp⟩
  simp only at h1
  rw [← wsum_pos hv 63, h1]

set_option maxRecDepth 100000 in
set_option maxHeartbeats 1600000 in
theorem total_any (v : List Int) (w : World) (hv : wOk v = true) :
    Calls Tryd.prog 21 #[VV (posT v v.length) (vt v)] w fun e w' => e = .returned (.int .i64 (wsum v 63)) ∧ Below w.heap.size w w' := by
  have hpl := posT_lt v v.length (wOk_len hv).2
  have HS := Lib.hid (pos_63 hv)
  have HC := Lib.hid (fun W => sum_any v (posT v v.length) W hv hpl)
  have hb0 : Below w.heap.size w (w.alloc (.cells #[.int .u8 ((posT v v.length : Nat) : Int), .int .i64 (vt v 0), .int .i64 (vt v 1), .int .i64 (vt v 2), .int .i64 (vt v 3), .int .i64 (vt v 4), .int .i64 (vt v 5)] 48)) := (Below.refl _ w).alloc (Nat.le_refl _) _
  clear hv
  unfold VV at *
  go_enter Tryd.func21, Tryd.ntmps21
  go_wp2_with fail
  refine (HC.out _).mono ?_
  rintro e w1 ⟨he, b1⟩
  rw [HS.out] at he
  subst he
  have hb1 := below_step hb0 b1
  go_wp2
  go_ret
  exact ⟨rfl, hb1⟩

end Go.Proofs.YtmpcnefmlnkkjaaDoor

/- Whether a set has enough votes: the closure of the program's WeightsFamily, by its contract. -/
namespace Go.Proofs.YtmpcnefmlnkkjaaDoor
open Go.RowKit

set_option maxRecDepth 100000 in
set_option maxHeartbeats 1600000 in
theorem enough_any (v : List Int) (n : Int) (s ba bn : Nat) (w : World) (hv : wOk v = true) (hs : s < 64) (ha : VB w ba (posT v v.length) (vt v)) (hn : w.cell? ⟨bn, 0, none⟩ = some (.int .i64 n)) :
    Calls Tryd.prog 22 #[.int .u8 s, .pointer (some ⟨ba, 0, none⟩), .pointer (some ⟨bn, 0, none⟩)] w fun e w' => e = .returned (.bool (eno v n s)) ∧ Below w.heap.size w w' := by
  have hbn : bn < w.heap.size := World.block_lt_of_cell? w _ hn
  have q0 := ha.c0
  have q1 := ha.c1
  have q2 := ha.c2
  have q3 := ha.c3
  have q4 := ha.c4
  have q5 := ha.c5
  have q6 := ha.c6
  have HC := Lib.hid (fun W => sum_any v s W hv hs)
  have HE : Hid (eno v n s = decide (n ≤ wsum v s)) := Lib.hid rfl
  clear hv
  unfold VV at *
  generalize wsum v s = t at *
  go_enter Tryd.func22, Tryd.ntmps22
  go_wp2_with fail
  go_region_law (first
    | (go_simp; go_at_call 23; refine (HC.out _).mono ?_; rintro e w1 ⟨rfl, b1⟩; have hn1 := (World.cell?_of_block (w := w) (b1.block bn hbn)).trans hn; have B1 : Below w.heap.size w w1 := ⟨b1.os, b1.tape, b1.output, b1.size, b1.block⟩)
    | fail)
  all_goals (clear b1 HC; go_wp2; go_ret; exact ⟨ret_bool HE.out.symm, B1⟩)
end Go.Proofs.YtmpcnefmlnkkjaaDoor

/- The minimal sets with enough votes, the program's, by their contract. -/
namespace Go.Proofs.YtmpcnefmlnkkjaaDoor
open Go.RowKit Go.Shelf
attribute [local go_sem] Oper.semAt_some

set_option maxRecDepth 100000 in
set_option maxHeartbeats 3200000 in
theorem whereW (v : List Int) (n : Int) (ba bn : Nat) (w : World) (hv : wOk v = true) (ha : VB w ba (posT v v.length) (vt v)) (hn : w.cell? ⟨bn, 0, none⟩ = some (.int .i64 n)) :
    Calls Tryd.prog 24 #[.func (.func 22) #[] #[.pointer (some ⟨ba, 0, none⟩), .pointer (some ⟨bn, 0, none⟩)]] w (Fam w w.heap.size (mins ((List.range 64).filter (eno v n)))) := by
  refine (callsIn_wide (n := 6)).1 ?_
  refine callsIn_of_wp_marks Tryd.func24 rfl trivial ?_ rfl
  simp only [Tryd.ntmps24, List.size_toArray, List.length_cons, List.length_nil, Nat.reduceAdd, Nat.reduceSub, Array.replicate_succ, Array.replicate_zero, List.push_toArray, List.append_toArray, List.nil_append, List.cons_append]
  gi_wp2_with (refine ⟨trivial, ?_⟩; gi_at_call 35; refine (callsIn_wide.2 (subsets_any 63 _)).mono ?_; rintro e w' ⟨rfl, rfl⟩)
  obtain ⟨q1, q2, q3, q4, q5, q6⟩ := wh0_facts w (.func (.func 22) #[] #[.pointer (some ⟨ba, 0, none⟩), .pointer (some ⟨bn, 0, none⟩)])
  obtain ⟨W0, hW0⟩ : ∃ W0, wh0 w (.func (.func 22) #[] #[.pointer (some ⟨ba, 0, none⟩), .pointer (some ⟨bn, 0, none⟩)]) = W0 := ⟨_, rfl⟩
  rw [hW0] at q1 q2 q3 q4 q5 q6
  have hW0' := hW0
  unfold wh0 at hW0'
  rw [hW0']
  clear hW0 hW0'
  refine wpIn_rangeFunc_ownF rfl (by omega) (gf := 44) (lb := #[.pointer (some ⟨w.heap.size + 1 + 1 + 1 + 1, 0, none⟩)]) rfl trivial (enters_of Tryd.func44 (by kernel_rfl) rfl)
    (subsets_stops _ (by omega) (w.heap.size + 1 + 1 + 1 + 1) W0 (by omega) q4) (fun h k => k.trans h) (fun W l o o' hl _ _ _ => World.putObj_heap_other (by omega)) (Below.refl _ _) (fun _ => rfl)
    (whI w (.func (.func 22) #[] #[.pointer (some ⟨ba, 0, none⟩), .pointer (some ⟨bn, 0, none⟩)]) (eno v n)) (fun _ _ _ => False) (by rw [q5]; exact whI_own w _ _) (fun _ _ _ _ _ hs _ _ => hs)
    ⟨⟨w.heap.size + 1, 0, [], q1, .inl rfl, (fun k _ hk => by simp at hk), by simp [vals], by simp⟩, q2, q3, by omega, q6⟩
    (fun x => { tmps := #[.func (.func 22) #[] #[.pointer (some ⟨ba, 0, none⟩), .pointer (some ⟨bn, 0, none⟩)], .pointer (some ⟨w.heap.size, 0, none⟩), .slice none 0 0, .pointer (some ⟨w.heap.size + 1 + 1 + 1, 0, none⟩), .int .u8 (x.1 : Int), .slice (some ⟨w.heap.size + 1, 0, none⟩) 0 0, .pointer (some ⟨w.heap.size + 1 + 1, 0, none⟩), .func (.func 44) #[] #[.pointer (some ⟨w.heap.size + 1 + 1 + 1 + 1, 0, none⟩)], .int .u8 (x.1 : Int), undef, undef, undef, undef, undef, undef, undef, undef], defers := [] }) ?assign ?body ?done ?stop
  case assign =>
    intro l x W K hK
    dsimp only [encB]
    gi_wp2
    exact hK
  case body =>
    rintro l pre x W ⟨⟨g, c', b, hg, hgq, hhp, hpm, hbl⟩, hc0, hc3, hsz, hB⟩ hlt
    obtain ⟨x, hx⟩ := x
    dsimp only
    have HC := Lib.hid (enough_any v n x ba bn W hv hx (ha.below hB) ((hB.cell (p := ⟨bn, 0, none⟩) (World.block_lt_of_cell? w _ hn)).trans hn))
    have hb1 : b.length ≤ 1000 := by omega
    cases hp : eno v n x
    · have HP := Lib.hid hp
      clear hp
      gi_wp2_with (refine ⟨trivial, ?_⟩; gi_at_call 22; refine (CallsIn.inRound l (callsIn_wide.2 HC.out)).mono ?_; rintro e w1 ⟨he, b1⟩; rw [HP.out] at he; subst he; have hg1 := hg.kept (b1.block _ hg.lt.1) (b1.block _ hg.lt.2); have hc01 := (World.cell?_of_block (w := W) (b1.block w.heap.size (by omega))).trans hc0; have hc31 := (World.cell?_of_block (w := W) (b1.block (w.heap.size + 1 + 1 + 1) (by omega))).trans hc3; have hB1 := below_step hB b1)
      refine ⟨⟨b1.size, fun k o ho _ => (b1.block k (Array.getElem?_eq_some_iff.1 ho).1).trans ho⟩, b1.block _ (by omega), ⟨⟨g, c', b, hg1, hgq, hhp, ?_, ?_⟩, hc01, hc31, Nat.le_trans hsz b1.size, hB1⟩⟩
      · rw [vals_snoc, List.filter_append]; simpa [HP.out] using hpm
      · simp; omega
    · have HP := Lib.hid hp
      clear hp
      gi_wp2_with (refine ⟨trivial, ?_⟩; first | (gi_at_call 22; refine (CallsIn.inRound l (callsIn_wide.2 HC.out)).mono ?_; rintro e w1 ⟨he, b1⟩; rw [HP.out] at he; subst he; have hg1 := hg.kept (b1.block _ hg.lt.1) (b1.block _ hg.lt.2); have hc01 := (World.cell?_of_block (w := W) (b1.block w.heap.size (by omega))).trans hc0; have hc31 := (World.cell?_of_block (w := W) (b1.block (w.heap.size + 1 + 1 + 1) (by omega))).trans hc3; have hB1 := below_step hB b1) | (gi_at_call 36; refine (CallsIn.inRound l (callsIn_wide.2 (addF (w.heap.size + 1 + 1) g c' x b w1 hg1 hhp hb1))).mono ?_; rintro e w2 ⟨rfl, g2, c2, b2, h1, h2, h3, h4, h5⟩) | fail)
      have hpl := h3.length_eq
      have hgl := hg.lt
      have hs1 := b1.size
      have keep : ∀ i, i < W.heap.size → i ≠ w.heap.size + 1 + 1 → i ≠ g → w2.heap[i]? = W.heap[i]? := fun i h6 h7 h8 => (h5.block i (by omega) h7 h8).trans (b1.block i h6)
      refine ⟨⟨Nat.le_trans hs1 h5.size, fun k o ho hn => ?_⟩, keep _ (by omega) (by omega) (by omega), ⟨⟨g2, c2, b2, h1, ?_, h2, ?_, ?_⟩, ?_, ?_, ?_, ?_⟩⟩
      · have hk := (Array.getElem?_eq_some_iff.1 ho).1
        rw [keep k hk ?_ ?_]
        · exact ho
        · rintro rfl
          rw [hg.1] at ho
          injection ho with ho
          subst ho
          cases hn
        · rintro rfl
          obtain ⟨cur, hc⟩ := own_cells hg.2 k rfl
          rw [hc] at ho
          injection ho with ho
          subst ho
          cases hn
      · omega
      · rw [vals_snoc, List.filter_append]
        simp only [List.filter_cons, HP.out, List.filter_nil, if_true]
        exact perm_snoc' h3 hpm
      · simp at hpl ⊢; omega
      · exact (World.cell?_of_block (w := W) (keep _ (by show w.heap.size < _; omega) (by show w.heap.size ≠ _; omega) (by show w.heap.size ≠ _; omega))).trans hc0
      · exact (World.cell?_of_block (w := W) (keep _ (by show w.heap.size + 1 + 1 + 1 < _; omega) (by show w.heap.size + 1 + 1 + 1 ≠ _; omega) (by show w.heap.size + 1 + 1 + 1 ≠ _; omega))).trans hc3
      · exact Nat.le_trans hsz (Nat.le_trans hs1 h5.size)
      · exact hB1.trans (h5.below (by omega) (by omega) (by omega))
  case done =>
    rintro D ys W hD hS ⟨⟨g, c', b, hg, hgq, hhp, hpm, hbl⟩, hc0, hc3, hsz, hB⟩ hK
    rw [hS] at hpm
    have hM : Msk ((List.range 64).filter (eno v n)) := fun q hq => List.mem_range.1 (List.mem_filter.1 hq).1
    have hb1 : b.length ≤ 1000 := by have := hpm.length_eq; have := List.length_filter_le (eno v n) (List.range 64); simp at this; omega
    have HF := Lib.hid (minimalF (w.heap.size + 1 + 1) g c' _ b W hg hhp hpm hM hb1)
    generalize mins ((List.range 64).filter (eno v n)) = MM at *
    gi_wp2_with (refine ⟨trivial, ?_⟩; gi_at_call 37; refine (callsIn_wide.2 HF.out).mono ?_; rintro e w2 ⟨A2, c2, rfl, o2, f2⟩)
    have hDl := (Array.getElem?_eq_some_iff.1 hK).1
    have hK2 : w2.heap[D]? = some (.deferred (some [])) := by
      rw [f2.block D hDl (by omega) ?_]
      · exact hK
      · rintro rfl
        obtain ⟨cur, hc⟩ := own_cells hg.2 D rfl
        rw [hc] at hK
        cases hK
    refine ⟨by simp, .inl ⟨_, _, rfl, run_takeDeferred hK2, ?_⟩⟩
    refine ⟨_, results_tmp rfl _ _ _, A2, c2, rfl, ownsRow_putObj (own_base o2 hB.size) _ hK2 rfl, ?_⟩
    have hgl := hg.lt
    exact (hB.trans (f2.below (by omega) (by omega) (by omega))).trans (belowK_b (w := w) (Nat.le_refl _) w2 D _ _ (by omega) hK2 rfl rfl)
  case stop =>
    rintro D c pre W _ _ h _
    exact h.elim
end Go.Proofs.YtmpcnefmlnkkjaaDoor

/- The program's WeightsFamily, by its contract. -/
namespace Go.Proofs.YtmpcnefmlnkkjaaDoor
open Go.RowKit

set_option maxRecDepth 100000 in
set_option maxHeartbeats 3200000 in
theorem implWFam_any (A : Option Addr) (c : Nat) (v : List Int) (n : Int) (w : World) (ha : IL w A v) (hlv : v.length ≤ 1048576) :
    Calls Tryd.prog 6 #[.slice A v.length c, .int .i64 n] w (NewSS2 w (outM (enoL v n) (wfOk v n)) (wfOk v n)) := by
  have hba : Below w.heap.size w (w.alloc (.cells #[.int .i64 n] 3)) := (Below.refl _ w).alloc (Nat.le_refl _) _
  have hna : (w.alloc (.cells #[.int .i64 n] 3)).cell? ⟨w.heap.size, 0, none⟩ = some (.int .i64 n) := by
    rw [cell_of_row _ w.heap.size 0 _ _ (0, 0) (heap_alloc_new w _)]
    rfl
  have hsz : w.heap.size < (w.alloc (.cells #[.int .i64 n] 3)).heap.size := by simp
  go_enter Tryd.func6, Tryd.ntmps6
  go_wp2_with fail
  generalize w.alloc (.cells #[.int .i64 n] 3) = w0 at *
  refine (votesOf_any _ _ _ _ (ha.below hba) hlv).mono ?_
  rintro e w1 ⟨b1, ⟨hv, rfl⟩ | ⟨hv, rfl⟩⟩
  · have HB := Lib.hid (show wfOk v n = false by simp [wfOk, hv])
    have hbz : Below w.heap.size w (w1.alloc (.cells #[.int .u8 0, .int .i64 0, .int .i64 0, .int .i64 0, .int .i64 0, .int .i64 0, .int .i64 0] 48)) := (below_step hba b1).alloc (below_step hba b1).size _
    clear hv
    unfold VV
    go_wp2
    generalize (w1.alloc (.cells #[.int .u8 0, .int .i64 0, .int .i64 0, .int .i64 0, .int .i64 0, .int .i64 0, .int .i64 0] 48)) = w3 at *
    go_quiet (fail)
    go_wp2
    go_ret2
    rw [HB.out, outM]
    exact NewSS2.nil (below_drewN hbz _)
  · have hb01 := below_step hba b1
    have hbz : Below w.heap.size w (w1.alloc (.cells #[.int .u8 ((posT v v.length : Nat) : Int), .int .i64 (vt v 0), .int .i64 (vt v 1), .int .i64 (vt v 2), .int .i64 (vt v 3), .int .i64 (vt v 4), .int .i64 (vt v 5)] 48)) := hb01.alloc hb01.size _
    have hvb := VB.newV w1 (posT v v.length) (vt v)
    have hn3 : (w1.alloc (.cells #[.int .u8 ((posT v v.length : Nat) : Int), .int .i64 (vt v 0), .int .i64 (vt v 1), .int .i64 (vt v 2), .int .i64 (vt v 3), .int .i64 (vt v 4), .int .i64 (vt v 5)] 48)).cell? ⟨w.heap.size, 0, none⟩ = some (.int .i64 n) := (World.cell?_of_block (w := w0) ((Below.heap_alloc w1 _ w.heap.size (by have := b1.size; omega)).trans (b1.block _ hsz))).trans hna
    have hw3 : w.heap.size < w1.heap.size := by have := b1.size; omega
    have HV := Lib.hid hv
    have HC := Lib.hid (fun W => total_any v W hv)
    clear hv b1 hb01 hna hba hsz ha
    by_cases hn1 : n < 1
    · have HB := Lib.hid (show wfOk v n = false by
        rw [Bool.eq_false_iff]
        intro h
        simp only [wfOk, Bool.and_eq_true, decide_eq_true_eq] at h
        omega)
      unfold VV at *
      go_wp2
      generalize (w1.alloc (.cells #[.int .u8 ((posT v v.length : Nat) : Int), .int .i64 (vt v 0), .int .i64 (vt v 1), .int .i64 (vt v 2), .int .i64 (vt v 3), .int .i64 (vt v 4), .int .i64 (vt v 5)] 48)) = w3 at *
      go_quiet (fail)
      go_wp2
      go_ret2
      rw [HB.out, outM]
      exact NewSS2.nil (below_drewN hbz _)
    · have hd1 : decide (n < 1) = false := decide_eq_false hn1
      unfold VV at *
      go_wp2
      generalize (w1.alloc (.cells #[.int .u8 ((posT v v.length : Nat) : Int), .int .i64 (vt v 0), .int .i64 (vt v 1), .int .i64 (vt v 2), .int .i64 (vt v 3), .int .i64 (vt v 4), .int .i64 (vt v 5)] 48)) = w3 at *
      have q0 := hvb.c0
      have q1 := hvb.c1
      have q2 := hvb.c2
      have q3 := hvb.c3
      have q4 := hvb.c4
      have q5 := hvb.c5
      have q6 := hvb.c6
      have hl3 := hvb.lt
      by_cases hnt : n ≤ wsum v 63
      · have HB := Lib.hid (show wfOk v n = true by simp [wfOk, HV.out, hnt]; omega)
        have hd2 : decide (wsum v 63 < n) = false := decide_eq_false (by omega)
        have hE : Hid ((List.range 64).filter (eno v n) = enoL v n) := Lib.hid rfl
        generalize wsum v 63 = t at *
        go_region_law (first
          | (go_simp; go_at_call 21; refine (HC.out _).mono ?_; rintro e w4 ⟨rfl, b4⟩; have B2 : Below w.heap.size w w4 := below_step hbz ⟨b4.os, b4.tape, b4.output, b4.size, b4.block⟩; have hn4 := (World.cell?_of_block (w := w3) (b4.block w.heap.size (by show w.heap.size < w3.heap.size; omega))).trans hn3; have hvb4 : VB w4 w1.heap.size (posT v v.length) (vt v) := hvb.kept (b4.block _ hl3))
          | fail)
        all_goals (
          clear b4 HC q0 q1 q2 q3 q4 q5 q6 hvb hn3 hbz
          go_wp2_with fail
          refine (whereW v n w1.heap.size w.heap.size _ HV.out hvb4 hn4).mono ?_
          rintro e w5 ⟨A3, c3, rfl, o3, b3⟩
          have hib := (IB.of_own o3).1
          rw [hE.out] at hib ⊢
          have hmn := mins_len (enoL v n)
          have hmm := mins_lt (enoL v n)
          have hb3 := below_step B2 b3
          clear o3 b3
          generalize enoL v n = M at *
          go_wp2_with fail
          refine (lists_any A3 c3 _ _ hib hmm (by omega)).mono ?_
          rintro e w6 ⟨A4, c4, rfl, o4, b6⟩
          have HR := Lib.hid (show NewSS2 w (outM M (wfOk v n)) (wfOk v n) (.returned (.tuple #[.slice A4 (mems (mins M)).length c4, .bool true])) w6 by
            rw [HB.out, outM]
            exact ⟨A4, c4, rfl, o4.base hb3.size, below_step hb3 b6⟩)
          clear o4 b6 hib hb3
          go_wp2
          go_ret2
          exact HR.out)
      · have HB := Lib.hid (show wfOk v n = false by
          rw [Bool.eq_false_iff]
          intro h
          simp only [wfOk, Bool.and_eq_true, decide_eq_true_eq] at h
          omega)
        have hd2 : decide (wsum v 63 < n) = true := decide_eq_true (by omega)
        generalize wsum v 63 = t at *
        go_region_law (first
          | (go_simp; go_at_call 21; refine (HC.out _).mono ?_; rintro e w4 ⟨rfl, b4⟩; have B2 : Below w.heap.size w w4 := below_step hbz ⟨b4.os, b4.tape, b4.output, b4.size, b4.block⟩; have hn4 := (World.cell?_of_block (w := w3) (b4.block w.heap.size (by show w.heap.size < w3.heap.size; omega))).trans hn3)
          | fail)
        all_goals (
          clear b4 HC q0 q1 q2 q3 q4 q5 q6 hvb hn3 hbz
          go_wp2
          go_ret2
          rw [HB.out, outM]
          exact NewSS2.nil B2)
end Go.Proofs.YtmpcnefmlnkkjaaDoor
