/- Weighted votes, the reference model's, by their contracts. -/
import Derived.Test.YtnfaihgnggmpkaaGd
import Derived.Test.YtnfaihgnggmpkaaGa
import Derived.Laws.ResultCell
namespace Go.Proofs.Ytnfaihgnggmpkaa
open Go.RowKit

theorem l6In_yes2 (n a b : Int) (w : World) (h1 : a ≤ n) (h2 : n ≤ b) :
    Calls Try.prog 52 #[.int .i64 n, .int .i64 a, .int .i64 b] w fun e w' => e = .returned (.bool true) ∧ w = w' := (l6In_yes n a b w h1 h2).mono fun _ _ h => ⟨h.1, h.2.symm⟩
theorem l6In_no2 (n a b : Int) (w : World) (h : n < a ∨ b < n) :
    Calls Try.prog 52 #[.int .i64 n, .int .i64 a, .int .i64 b] w fun e w' => e = .returned (.bool false) ∧ w = w' := (l6In_no n a b w h).mono fun _ _ h => ⟨h.1, h.2.symm⟩
theorem wOk_len {w : List Int} (h : wOk w = true) : 1 ≤ w.length ∧ w.length ≤ 6 := ⟨(wOk_iff.1 h).1, (wOk_iff.1 h).2.1⟩
theorem wOk_bad {w : List Int} {k : Nat} {x : Int} (hx : w[k]? = some x) (h : ¬ (0 ≤ x ∧ x ≤ 9)) : wOk w = false := by
  rw [Bool.eq_false_iff]
  intro h2
  exact h ((wOk_iff.1 h2).2.2 x (List.mem_of_getElem? hx))
def wAll (w : List Int) : Prop := ∀ x ∈ w, 0 ≤ x ∧ x ≤ 9
theorem wAll_take {w : List Int} {k : Nat} {x : Int} (hx : w[k]? = some x) (h : wAll (w.take k)) (h2 : 0 ≤ x ∧ x ≤ 9) : wAll (w.take (k + 1)) := by
  rw [List.take_add_one, hx]
  intro y hy
  rcases List.mem_append.1 hy with h3 | h3
  · exact h y h3
  · simp at h3; subst h3; exact h2

set_option maxRecDepth 100000 in
set_option maxHeartbeats 800000 in
theorem specWV_any (A : Option Addr) (c : Nat) (v : List Int) (w : World) (ha : IL w A v) (hl : v.length ≤ 1048576) :
    Calls Try.prog 51 #[.slice A v.length c] w fun e w' => e = .returned (.bool (wOk v)) ∧ w = w' := by
  go_enter Try.func51, Try.ntmps51
  go_wp2
  go_loop [3] (fun i => ∃ k : Nat, k ≤ v.length ∧ i = .int .i64 k ∧ Hid (wAll (v.take k))) (fun i => v.length - (intOf i).toNat)
  case atStart => exact ⟨0, Nat.zero_le _, rfl, (by show ∀ _ ∈ _, _; simp)⟩
  case round =>
    obtain ⟨k, hk, rfl, hall⟩ := hrel
    by_cases hlt : k < v.length
    · obtain ⟨b, off, x, rfl, hx, hc⟩ := ha.at_ hlt
      have hki : (0 : Int) ≤ (k : Int) := by omega
      have hki2 : (k : Int) < (v.length : Int) := by omega
      by_cases hr : 0 ≤ x ∧ x ≤ 9
      · have H := Lib.hid (wAll_take hx hall.out hr)
        obtain ⟨hr1, hr2⟩ := hr
        clear hx hall
        go_wp2_with fail
        refine (l6In_yes x 0 9 _ hr1 hr2).mono ?_
        rintro e w' ⟨rfl, rfl⟩
        go_wp2
        go_round
        case rel => exact ⟨k + 1, by omega, by go_num, H.out⟩
        case measure => simp [intOf]; omega
      · have H := Lib.hid (wOk_bad hx hr)
        clear hx hall
        go_wp2_with fail
        refine (l6In_no x 0 9 _ (by omega)).mono ?_
        rintro e w' ⟨rfl, rfl⟩
        go_wp2
        go_ret
        exact ⟨ret_bool H.out.symm, rfl⟩
    · have hkl : k = v.length := by omega
      subst hkl
      have HA := Lib.hid (show wAll v by have := hall.out; rwa [List.take_length] at this)
      clear hall
      by_cases hr : 1 ≤ v.length ∧ v.length ≤ 6
      · have H := Lib.hid (wOk_iff.2 ⟨hr.1, hr.2, HA.out⟩)
        go_wp2_with fail
        refine (l6In_yes (v.length : Int) 1 6 _ (by omega) (by omega)).mono ?_
        rintro e w' ⟨rfl, rfl⟩
        go_wp2
        go_ret
        exact ⟨ret_bool H.out.symm, rfl⟩
      · have H := Lib.hid (show wOk v = false by rw [Bool.eq_false_iff]; intro h; exact hr (wOk_len h))
        go_wp2_with fail
        refine (l6In_no (v.length : Int) 1 6 _ (by omega)).mono ?_
        rintro e w' ⟨rfl, rfl⟩
        go_wp2
        go_ret
        exact ⟨ret_bool H.out.symm, rfl⟩

set_option maxRecDepth 100000 in
set_option maxHeartbeats 800000 in
theorem l4Sum_any (A B : Option Addr) (c d : Nat) (v l : List Int) (w : World) (ha : IL w A v) (hb : IL w B l) (hv : wOk v = true) (hl : vld l = true) :
    Calls Try.prog 53 #[.slice A v.length c, .slice B l.length d] w fun e w' => e = .returned (.int .i64 (lsum v l)) ∧ w = w' := by
  have HV := Lib.hid hv
  have HL := Lib.hid hl
  have hvl := wOk_len hv
  have hll := vld_len hl
  clear hv hl
  go_enter Try.func53, Try.ntmps53
  go_wp2
  go_loop [5, 6] (fun s i => ∃ (k : Nat) (t : Int), k ≤ l.length ∧ i = .int .i64 k ∧ s = .int .i64 t ∧ Hid (lsum v (l.take k) = t)) (fun _ i => l.length - (intOf i).toNat)
  case atStart => exact ⟨0, 0, Nat.zero_le _, rfl, rfl, (by show _ = _; simp [lsum])⟩
  case round =>
    obtain ⟨k, t, hk, rfl, rfl, hsum⟩ := hrel
    have ht : 0 ≤ t ∧ t ≤ 54 := by rw [← hsum.out]; exact lsum_rng6 HV.out hll k
    by_cases hlt : k < l.length
    · obtain ⟨b, off, x, rfl, hx, hc⟩ := hb.at_ hlt
      have hx6 := vld_at HL.out hx
      have hki : (0 : Int) ≤ (k : Int) := by omega
      have hki2 : (k : Int) < (l.length : Int) := by omega
      have hw9 := wat_rng HV.out x
      have HS := Lib.hid (show lsum v (l.take (k + 1)) = t + wat v x by rw [lsum_take hx, hsum.out])
      clear hx hsum
      by_cases hxl : x ≤ (v.length : Int)
      · obtain ⟨b', off', y, rfl, hy, hc'⟩ := ha.at_ (k := x.toNat - 1) (by omega)
        have hwy : wat v x = y := vt_some hy
        rw [hwy] at HS hw9
        have hxn : ((x.toNat - 1 : Nat) : Int) = x - 1 := by omega
        have hx1 : (x - 1).toNat = x.toNat - 1 := by omega
        have hx2 : (0 : Int) ≤ x - 1 := by omega
        have hx3 : x - 1 < (v.length : Int) := by omega
        clear hwy hy
        go_wp2
        go_round
        case rel => exact ⟨k + 1, t + y, by omega, by go_num, by go_num, HS.out⟩
        case measure => simp [intOf]; omega
      · have hwy : wat v x = 0 := vt_none (by omega)
        rw [hwy] at HS
        clear hwy
        go_wp2
        go_round
        case rel => exact ⟨k + 1, t, by omega, by go_num, rfl, by have := HS.out; show _ = _; omega⟩
        case measure => simp [intOf]; omega
    · have hkl : k = l.length := by omega
      subst hkl
      have H := Lib.hid (show lsum v l = t by have := hsum.out; rwa [List.take_length] at this)
      clear hsum
      go_wp2
      go_ret
      exact ⟨ret_int H.out.symm, rfl⟩

set_option maxRecDepth 100000 in
set_option maxHeartbeats 1600000 in
theorem specWFam_any (A : Option Addr) (c : Nat) (v : List Int) (n : Int) (w : World) (ha : IL w A v) (hlv : v.length ≤ 1048576) :
    Calls Try.prog 33 #[.slice A v.length c, .int .i64 n] w (NewSS2 w (outM (enoL v n) (wfOk v n)) (wfOk v n)) := by
  obtain ⟨i0, hi0, hz0, hz1, hz2⟩ := info_parts slice_info
  cases hv : wOk v
  · have HV := Lib.hid hv
    have HB := Lib.hid (show wfOk v n = false by simp [wfOk, hv])
    clear hv
    go_enter Try.func33, Try.ntmps33
    go_wp2_with fail
    refine (specWV_any _ _ _ _ ha hlv).mono ?_
    rintro e w' ⟨he, rfl⟩
    rw [HV.out] at he
    subst he
    go_wp2
    go_ret2
    rw [HB.out, outM]
    exact NewSS2.made (Below.refl _ _)
  · have HV := Lib.hid hv
    have HW : Hid (lsum v (mem 63) = wsum v 63) := Lib.hid rfl
    clear hv
    by_cases hn : 1 ≤ n ∧ n ≤ wsum v 63
    · have HB := Lib.hid (show wfOk v n = true by simp [wfOk, HV.out, hn.1, hn.2])
      have HN := Lib.hid hn
      clear hn
      obtain ⟨p, hp⟩ : ∃ p, p = eno v n := ⟨_, rfl⟩
      have HT := Lib.hid (show (List.range 64).filter p = enoL v n by rw [hp]; rfl)
      have HP := Lib.hid (show ∀ k, p k = decide (n ≤ lsum v (mem k)) by intro k; rw [hp]; rfl)
      clear hp
      go_enter Try.func33, Try.ntmps33
      go_wp2_with fail
      refine (specWV_any _ _ _ _ ha hlv).mono ?_
      rintro e w' ⟨he, rfl⟩
      rw [HV.out] at he
      subst he
      go_wp2_with fail
      refine (l1Masks_any _).mono ?_
      rintro e w' ⟨rfl, rfl⟩
      go_wp2_with fail
      refine (l1OfMask_any 63 _ (by omega)).mono ?_
      rintro e w1 ⟨A1, c1, rfl, o1, b1⟩
      have hil := (IL.of_own o1).1
      clear o1
      go_wp2_with fail
      refine (l4Sum_any _ _ _ _ _ _ _ (ha.below b1) hil HV.out (vld_mem (by omega))).mono ?_
      rintro e w' ⟨he, rfl⟩
      rw [HW.out] at he
      subst he
      generalize wsum v 63 = t at *
      go_wp2_with fail
      refine (l6In_yes2 n 1 t _ HN.out.1 HN.out.2).mono ?_
      rintro e w' ⟨rfl, rfl⟩
      have h00 : (w1.alloc (.cells #[] 47)).ownsRow w.heap.size 47 1 (.slice (some ⟨w1.heap.size, 0, none⟩) 0 0) 0 [] := World.ownsRow_made w1 #[] 0 b1.size (by unfold maxLen; omega) (by simp)
      have H00 := Lib.hid (And.intro h00 (b1.alloc b1.size (.cells #[] 47)))
      clear h00 b1 hil HW
      go_wp2
      go_loopw [6, 7] (fun u i wr => ∃ (k : Nat) (rs : List Value) (A5 : Option Addr) (c5 : Nat), k ≤ 64 ∧ i = .int .i64 k ∧ u = .slice A5 rs.length c5 ∧ rs.length ≤ k ∧ wr.ownsRow w.heap.size 47 1 (.slice A5 rs.length c5) rs.length rs ∧ Hid (Rws wr w.heap.size wr.heap.size (mems ((List.range k).filter p)) rs) ∧ Below w.heap.size w wr) (fun _ i _ => 64 - (intOf i).toNat)
      case atStart => exact ⟨0, [], _, _, by omega, rfl, rfl, by simp, H00.out.1, Rws.nil _ _ _, H00.out.2⟩
      case round =>
        clear H00
        obtain ⟨k, rs, A5, c5, hk, rfl, rfl, hrl, hown, hrows, hbel⟩ := hrel
        by_cases hlt : k < 64
        · go_wp2_with fail
          refine (l1Masks_any _).mono ?_
          rintro e w' ⟨rfl, rfl⟩
          go_wp2_with fail
          refine (l1OfMask_any k _ hlt).mono ?_
          rintro e w3 ⟨A2, c2, rfl, o2, b23⟩
          have hil2 := (IL.of_own o2).1
          have hml := mem_len k
          have hb2 := below_step hbel b23
          clear o2
          go_wp2_with fail
          refine (l4Sum_any _ _ _ _ _ _ _ (ha.below hb2) hil2 HV.out (vld_mem hlt)).mono ?_
          rintro e w' ⟨rfl, rfl⟩
          have hown3 := own_at hown (w' := w3) fun g hg => b23.block g (hown.lt g hg).2
          have HR3 := Lib.hid (hrows.out.below (Nat.le_refl _) b23)
          have hb3 := below_step hbel b23
          have hq : w.heap.size ≤ wr.heap.size ∧ wr.heap.size ≤ w3.heap.size := ⟨hbel.size, b23.size⟩
          clear hown hrows hb2 hil2
          have HE := HP.out k
          generalize lsum v (mem k) = sk at *
          by_cases hsk : n ≤ sk
          · have HPK := Lib.hid (show p k = true by rw [HE]; simp [hsk])
            clear HE hbel b23
            have HR3' := Lib.hid (Rws.hi_le HR3.out hq.2 (Nat.le_refl _))
            clear HR3
            go_wp2_with fail
            refine (l1OfMask_any k _ hlt).mono ?_
            rintro e w4 ⟨A4, c4, rfl, o4, b4⟩
            have hown4 := own_at hown3 (w' := w4) fun g hg => b4.block g (hown3.lt g hg).2
            have hb4 := below_step hb3 b4
            have HR4 := Lib.hid (And.intro (HR3'.out.below (Nat.le_refl _) b4) (show RowAt w4 w3.heap.size w4.heap.size (mem k) (.slice A4 (mem k).length c4) from ⟨_, _, rfl, Own.of_new o4⟩))
            have hq4 : w.heap.size ≤ w3.heap.size ∧ w3.heap.size ≤ w4.heap.size := ⟨by omega, b4.size⟩
            clear hown3 HR3' hb3 b4 o4
            go_wp2_with (at_builtin; refine wpList_append_own _ rfl (.tmp 34) (.tmp 37) 23 rfl w.heap.size 47 i0 (.slice none 0 0) 1 24 Try.underlying23 hi0 hz0 hz1 hz2 rfl (by decide) _ _ _ rfl (hown4.alloc _) ⟨w4.heap.size, 0, none⟩ 1 1 [.slice A4 (mem k).length c4] rfl rfl (cell_one_new _ _ _) (slice_oneCell _ _ _) (by unfold maxLen; omega) (by omega) (by simp; omega) ?_)
            intro v5 w5 hown5 hgrow5 _
            have R := Lib.hid (show ∃ rs' A6 c6, v5 = Value.slice A6 (List.length rs') c6 ∧ rs'.length = rs.length + 1 ∧ w5.ownsRow w.heap.size 47 1 (.slice A6 (List.length rs') c6) (List.length rs') rs' ∧ Rws w5 w.heap.size w5.heap.size (mems ((List.range (k + 1)).filter p)) rs' ∧ Below w.heap.size w w5 by
              have h3 : w5.ownsRow w.heap.size 47 1 v5 (rs ++ [Value.slice A4 (mem k).length c4]).length (rs ++ [Value.slice A4 (mem k).length c4]) := by simpa using hown5
              obtain ⟨A6, c6, h4⟩ := own_slice h3
              refine ⟨_, A6, c6, h4, by simp, by rw [← h4]; exact h3, ?_, app_gen hown4 (Nat.le_refl _) hb4 hgrow5⟩
              rw [mems_range_yes HPK.out]
              exact rows_app HR4.out.1 HR4.out.2 (Nat.le_refl _) hq4.1 hq4.2 hown4 hgrow5)
            obtain ⟨rs', A6, c6, rfl, hrl', R2⟩ := R.out
            have HR2 := Lib.hid R2
            clear R R2 hown5 hgrow5 hown4 HR4 hb4
            go_wp2
            go_roundw
            case rel => exact ⟨k + 1, rs', A6, c6, by omega, by go_num, rfl, by omega, HR2.out.1, HR2.out.2.1, HR2.out.2.2⟩
            case measure => simp [intOf]; omega
          · have HPK := Lib.hid (show p k = false by rw [HE]; simp [hsk])
            have R := Lib.hid (show w3.ownsRow w.heap.size 47 1 (.slice A5 rs.length c5) rs.length rs ∧ Rws w3 w.heap.size w3.heap.size (mems ((List.range (k + 1)).filter p)) rs ∧ Below w.heap.size w w3 by
              refine ⟨hown3, ?_, hb3⟩
              rw [mems_range_no HPK.out]
              exact Rws.hi_le HR3.out hq.2 (Nat.le_refl _))
            clear hown3 HR3 hb3 b23 hbel HE
            go_wp2
            go_roundw
            case rel => exact ⟨k + 1, rs, A5, c5, by omega, by go_num, rfl, by omega, R.out.1, R.out.2.1, R.out.2.2⟩
            case measure => simp [intOf]; omega
        · have hkl : k = 64 := by omega
          subst hkl
          have h1 := hrows.out
          have hrl2 : rs.length = (mems ((List.range 64).filter p)).length := h1.1
          have hiss : ISS wr A5 (mems ((List.range 64).filter p)) := by
            rw [hrl2] at hown
            exact h1.iss hown fun _ _ h => h
          rw [hrl2]
          have HU := Lib.hid (filter_allV p)
          have HM := Lib.hid (msks_filter p)
          have hsh := mems_short ((List.range 64).filter p) 1048576 (by omega)
          have hlen : (mems ((List.range 64).filter p)).length ≤ 1048576 := by omega
          clear hown hrows h1 hrl2
          generalize mems ((List.range 64).filter p) = U at *
          go_wp2_with fail
          refine (l1Masks_any _).mono ?_
          rintro e w' ⟨rfl, rfl⟩
          go_wp2_with fail
          refine (l3Min_any _ _ _ _ hiss hlen hsh HU.out).mono ?_
          rintro e w5 ⟨A7, c7, rfl, o7, b7⟩
          have HR := Lib.hid (show NewSS2 w (outM (enoL v n) (wfOk v n)) (wfOk v n) (.returned (.tuple #[.slice A7 (mems (mins (msks U))).length c7, .bool true])) w5 by
            rw [HM.out, HT.out] at *
            rw [HB.out, outM]
            exact ⟨A7, c7, rfl, o7.base hbel.size, below_step hbel b7⟩)
          clear o7 b7
          go_wp2
          go_ret2
          exact HR.out
    · have HB := Lib.hid (show wfOk v n = false by
        rw [Bool.eq_false_iff]
        intro h
        simp only [wfOk, Bool.and_eq_true, decide_eq_true_eq] at h
        exact hn ⟨h.1.2, h.2⟩)
      have hn' : n < 1 ∨ wsum v 63 < n := by omega
      have HN := Lib.hid hn'
      clear hn hn'
      go_enter Try.func33, Try.ntmps33
      go_wp2_with fail
      refine (specWV_any _ _ _ _ ha hlv).mono ?_
      rintro e w' ⟨he, rfl⟩
      rw [HV.out] at he
      subst he
      go_wp2_with fail
      refine (l1Masks_any _).mono ?_
      rintro e w' ⟨rfl, rfl⟩
      go_wp2_with fail
      refine (l1OfMask_any 63 _ (by omega)).mono ?_
      rintro e w1 ⟨A1, c1, rfl, o1, b1⟩
      have hil := (IL.of_own o1).1
      clear o1
      go_wp2_with fail
      refine (l4Sum_any _ _ _ _ _ _ _ (ha.below b1) hil HV.out (vld_mem (by omega))).mono ?_
      rintro e w' ⟨he, rfl⟩
      rw [HW.out] at he
      subst he
      generalize wsum v 63 = t at *
      go_wp2_with fail
      refine (l6In_no2 n 1 t _ HN.out).mono ?_
      rintro e w' ⟨rfl, rfl⟩
      go_wp2
      go_ret2
      rw [HB.out, outM]
      exact NewSS2.made b1
end Go.Proofs.Ytnfaihgnggmpkaa

/- Weighted votes, the program's, by their contracts. -/
namespace Go.Proofs.Ytnfaihgnggmpkaa
open Go.RowKit

/-- The votes of the first k members, the others' as 0. -/
def vk (v : List Int) (k j : Nat) : Int := if j < k then vt v j else 0
def VV (m : Nat) (u : Nat → Int) : Value := .agg #[.int .u8 (m : Int), .int .i64 (u 0), .int .i64 (u 1), .int .i64 (u 2), .int .i64 (u 3), .int .i64 (u 4), .int .i64 (u 5)]
section
variable {w w' : World} {b m : Nat} {u : Nat → Int}
end
theorem vk_next {v : List Int} {k : Nat} {x : Int} (hx : v[k]? = some x) : (fun j => if j = k then x else vk v k j) = vk v (k + 1) := by
  funext j
  unfold vk
  by_cases e : j = k
  · subst e
    simp [vt_some hx]
  · have : (j < k + 1) ↔ j < k := by omega
    simp [e, this]
theorem vk_zero {v : List Int} {k : Nat} (hx : v[k]? = some 0) : vk v k = vk v (k + 1) := by
  funext j
  unfold vk
  by_cases e : j = k
  · subst e
    simp [vt_some hx]
  · have : (j < k + 1) ↔ j < k := by omega
    simp [this]
theorem vk_all {v : List Int} (j : Nat) : vk v v.length j = vt v j := by
  unfold vk
  split
  · rfl
  · exact (vt_none (by omega)).symm
theorem posT_yes {v : List Int} {k : Nat} {x : Int} (hx : v[k]? = some x) (h : 0 < x) : posT v (k + 1) = posT v k ||| 2 ^ k := by
  rw [posT, vt_some hx, if_pos h]
theorem posT_no {v : List Int} {k : Nat} (hx : v[k]? = some 0) : posT v (k + 1) = posT v k := by
  rw [posT, vt_some hx, if_neg (by omega)]

/-- What the reading of a vote assignment hands back. -/
def Votes (w : World) (v : List Int) (e : Ending) (w' : World) : Prop :=
  Below w.heap.size w w' ∧ ((wOk v = false ∧ e = .returned (.tuple #[VV 0 (fun _ => 0), .bool false])) ∨ (wOk v = true ∧ e = .returned (.tuple #[VV (posT v v.length) (vt v), .bool true])))

/-- A whole assignment is written over another. -/
def set7 (w : World) (b m : Nat) (u : Nat → Int) : World := ((((((((w.setCell ⟨b, 0, none⟩ (.int .u8 (m : Int))).setCell ⟨b, 1, none⟩ (.int .i64 (u 0))).setCell ⟨b, 2, none⟩ (.int .i64 (u 1))).setCell ⟨b, 3, none⟩ (.int .i64 (u 2))).setCell ⟨b, 4, none⟩ (.int .i64 (u 3))).setCell ⟨b, 5, none⟩ (.int .i64 (u 4))).setCell ⟨b, 6, none⟩ (.int .i64 (u 5))))
theorem set7_below {a w : World} {B b : Nat} (h : Below B a w) (hb : B ≤ b) (m : Nat) (u : Nat → Int) : Below B a (set7 w b m u) :=
  ((((((h.setCell hb _).setCell hb _).setCell hb _).setCell hb _).setCell hb _).setCell hb _).setCell hb _
end Go.Proofs.Ytnfaihgnggmpkaa

/- Sums of weighted votes, the program's, by their contracts. -/
namespace Go.Proofs.Ytnfaihgnggmpkaa
open Go.RowKit

theorem pos_63 {v : List Int} (hv : wOk v = true) : wsum v (posT v v.length) = wsum v 63 := by
  have hp := posT_lt v v.length (wOk_len hv).2
  have H : ∀ a : Fin 64, a.val &&& 63 = a.val := by decide +kernel
  have h1 := H ⟨_, hp⟩
  simp only at h1
  rw [← wsum_pos hv 63, h1]

end Go.Proofs.Ytnfaihgnggmpkaa

/- Whether a set has enough votes: the closure of the program's WeightsFamily, by its contract. -/
namespace Go.Proofs.Ytnfaihgnggmpkaa
open Go.RowKit

end Go.Proofs.Ytnfaihgnggmpkaa

/- The minimal sets with enough votes, the program's, by their contract. -/
namespace Go.Proofs.Ytnfaihgnggmpkaa
open Go.RowKit Go.Shelf
attribute [local go_sem] Oper.semAt_some

end Go.Proofs.Ytnfaihgnggmpkaa

/- The program's WeightsFamily, by its contract. -/
namespace Go.Proofs.Ytnfaihgnggmpkaa
open Go.RowKit

end Go.Proofs.Ytnfaihgnggmpkaa
