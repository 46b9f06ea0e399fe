/- The walk of the law that only ratios of votes matter. -/
import Derived.Test.YtmpcnefmlnkkjaaWLawsg
import Derived.Test.YtmpcnefmlnkkjaaGc
import Derived.Test.YtmpcnefmlnkkjaaGd
import Derived.Test.YtmpcnefmlnkkjaaGb
namespace Go.Proofs.Ytmpcnefmlnkkjaa
open Go.RowKit

def dbt (v : List Int) (k : Nat) : List Int := (v.take k).map fun x => 2 * x
theorem dbt_succ {v : List Int} {k : Nat} {x : Int} (h : v[k]? = some x) : dbt v (k + 1) = dbt v k ++ [2 * x] := by simp [dbt, List.take_add_one, h]
theorem dbt_len (v : List Int) : (dbt v v.length).length = v.length := by simp [dbt]
theorem vt_dbl (v : List Int) (j : Nat) : vt (dbt v v.length) j = 2 * vt v j := by
  cases h : v[j]? with
  | none =>
    have hl : v.length ≤ j := List.getElem?_eq_none_iff.1 h
    rw [vt_none hl, vt_none (by rw [dbt_len]; exact hl)]
    rfl
  | some x => rw [vt_some h, vt_some (w := dbt v v.length) (x := 2 * x) (by simp [dbt, h])]
theorem tm_dbl (v : List Int) (s j : Nat) : tm (dbt v v.length) s j = 2 * tm v s j := by
  unfold tm
  split
  · exact vt_dbl v j
  · rfl
theorem wsum_dbl (v : List Int) (s : Nat) : wsum (dbt v v.length) s = 2 * wsum v s := by
  rw [wsum_six, wsum_six]
  simp only [tm_dbl]
  omega
theorem dbl_laws {v : List Int} {n : Int} (h : wfOk v n = true) : wfOk (dbt v v.length) (2 * n) = wOk (dbt v v.length) ∧ enoL (dbt v v.length) (2 * n) = enoL v n := by
  simp only [wfOk, Bool.and_eq_true, decide_eq_true_eq] at h
  obtain ⟨⟨h1, h2⟩, h3⟩ := h
  refine ⟨?_, List.filter_congr fun s _ => ?_⟩
  · unfold wfOk
    rw [wsum_dbl, decide_eq_true (show (1 : Int) ≤ 2 * n by omega), decide_eq_true (show 2 * n ≤ 2 * wsum v 63 by omega), Bool.and_true, Bool.and_true]
  · unfold eno
    rw [wsum_dbl, decide_eq_decide]
    omega
theorem wf_votes {v : List Int} {n : Int} (h : wfOk v n = true) : ∀ (k : Nat) x, v[k]? = some x → 0 ≤ x ∧ x ≤ 9 := fun k x hx => by
  simp only [wfOk, Bool.and_eq_true, decide_eq_true_eq] at h
  exact (wOk_iff.1 h.1.1).2.2 x (List.mem_of_getElem? hx)

set_option maxRecDepth 100000 in
set_option maxHeartbeats 3200000 in
theorem walkScale (A : Option Addr) (c : Nat) (l : List Int) (w : World) (ha : BL w A l) (hc : l.length ≤ c) (hm : l.length ≤ maxLen) (hmc : c ≤ maxLen) :
    Calls Try.prog 12 #[.slice A l.length c] w fun e w' => e = .returned (.bool true) ∧ Below w.heap.size w w' := by
  obtain ⟨i0, hi0, hz0, hz1, hz2⟩ := info_parts int_info
  have hm' := hm
  unfold maxLen at hm'
  by_cases hl : l.length ≤ 1048576
  · go_enter Try.func12, Try.ntmps12
    go_wp2_with fail
    refine (drawWFam_any _ _ _ _ ha hc hm hmc).mono ?_
    rintro e w1 ⟨v, n, A1, c1, hv7, hn0, hn1, rfl, i1, B1⟩
    clear ha hm hc hmc
    have hvl : v.length ≤ 1048576 := by omega
    have hO := outM_len (enoL v n) (wfOk v n)
    have sO := outM_short (enoL v n) (wfOk v n)
    go_wp2_with fail
    refine (specWFam_any _ _ _ _ _ i1 hvl).mono ?_
    rintro e w2 ⟨A2, c2, rfl, OW, b2⟩
    have i2 := i1.below b2
    have B2 := below_step B1 b2
    clear i1 B1 b2
    go_wp2_with fail
    refine (implWFam_any _ _ _ _ _ i2 hvl).mono ?_
    rintro e w3 ⟨A3, c3, rfl, OG, b3⟩
    have i3 := (OW.below b3).iss
    have j3 := OG.iss
    have k3 := i2.below b3
    have B3 := below_step B2 b3
    clear i2 B2 b3 OW OG
    generalize hok : wfOk v n = ok at *
    have HB := Lib.hid hok
    clear hok
    cases ok
    · clear HB
      go_wp2_with fail
      refine (sameSets_yes _ _ _ _ _ _ j3 i3 (by omega) sO).mono ?_
      rintro e w4 ⟨rfl, d4⟩
      have B4 := below_step B3 d4.below
      have i4 := i3.below d4.below
      have j4 := j3.below d4.below
      clear B3 i3 j3 d4
      go_wp2_with fail
      refine (sameSets_yes _ _ _ _ _ _ j4 i4 (by omega) sO).mono ?_
      rintro e w5 ⟨rfl, d5⟩
      have B5 := below_step B4 d5.below
      clear B4 i4 j4 d5
      go_wp2
      go_ret
      exact ⟨rfl, B5⟩
    · have HD := Lib.hid (dbl_laws HB.out)
      have HV := Lib.hid (wf_votes HB.out)
      clear HB
      go_wp2_with fail
      refine (sameSets_yes _ _ _ _ _ _ j3 i3 (by omega) sO).mono ?_
      rintro e w4 ⟨rfl, d4⟩
      have B4 := below_step B3 d4.below
      have k4 := k3.below d4.below
      have j4 := j3.below d4.below
      clear B3 i3 j3 k3 d4
      have ho0 : (w4.alloc (.cells #[] 3)).ownsRow w4.heap.size 3 1 (.slice (some ⟨w4.heap.size, 0, none⟩) 0 0) 0 [] := World.ownsRow_made w4 #[] 0 (Nat.le_refl _) (by unfold maxLen; omega) (by simp)
      have hb0 : Below w4.heap.size w4 (w4.alloc (.cells #[] 3)) := (Below.refl _ w4).alloc (Nat.le_refl _) _
      have H0 := Lib.hid (And.intro ho0 hb0)
      clear ho0 hb0
      go_wp2
      go_loopw [9, 10] (fun dv i wr => ∃ (k : Nat) (l : List Int) (A : Option Addr) (c : Nat), k ≤ v.length ∧ i = .int .i64 k ∧ dv = .slice A l.length c ∧ Hid (l = dbt v k) ∧ l.length ≤ 7 ∧ wr.ownsRow w4.heap.size 3 1 (.slice A l.length c) l.length (l.map (Value.int .i64)) ∧ Below w4.heap.size w4 wr) (fun _ i _ => v.length - (intOf i).toNat)
      case atStart => exact ⟨0, [], _, _, Nat.zero_le _, rfl, rfl, Lib.hid (by simp [dbt]), by simp, H0.out.1, H0.out.2⟩
      case round =>
        clear H0
        obtain ⟨k, p, A5, c5, hk, rfl, rfl, HP, hp7, hown, hbel⟩ := hrel
        by_cases hlt : k < v.length
        · have k5 := k4.below hbel
          obtain ⟨b1, off1, x, rfl, hx, hcx⟩ := k5.at_ hlt
          obtain ⟨hx0, hx9⟩ := HV.out _ _ hx
          have hki : (0 : Int) ≤ (k : Int) := by omega
          have hki2 : (k : Int) < (v.length : Int) := by omega
          have hw2 : IntKind.i64.wrap (2 * x) = 2 * x := by rw [IntKind.wrap_i64]; omega
          have HP2 := Lib.hid (show p ++ [2 * x] = dbt v (k + 1) by rw [dbt_succ hx, HP.out])
          have hv : ∀ k, (Value.slice A5 p.length c5).ownBlock = some k → w4.heap.size ≤ k := fun k hk => (hown.lt k hk).1
          have hpk : p.length = k := by
            rw [HP.out]; simp [dbt]; omega
          have hpl : (p ++ [2 * x]).length ≤ 7 := by simp; omega
          clear hpk HP hx
          have hsz := hbel.size
          go_wp2_with (at_builtin; refine wpList_append_own _ rfl (.tmp 61) (.tmp 67) 28 rfl w4.heap.size 3 i0 (.int .i64 0) 1 8 Try.underlying28 hi0 hz0 hz1 hz2 rfl (by decide) _ _ _ rfl (hown.alloc _) ⟨wr.heap.size, 0, none⟩ 1 1 [.int .i64 (2 * x)] rfl rfl (cell_one_new _ _ _) (ints_oneCell .i64 [(2 * x : Int)]) (by unfold maxLen; omega) (by omega) (by simp; omega) ?_)
          intro v' w6 ho6 hg6 _
          have b6 : Below w4.heap.size w4 w6 := app_gen hown (Nat.le_refl _) hbel hg6
          obtain ⟨A6, c6, rfl⟩ := own_slice ho6
          have ho7 : w6.ownsRow w4.heap.size 3 1 (.slice A6 (p ++ [2 * x]).length c6) (p ++ [2 * x]).length ((p ++ [2 * x]).map (Value.int .i64)) := by simpa using ho6
          have e7 : p.length + 1 = (p ++ [2 * x]).length := by simp
          rw [e7]
          have D := Lib.hid (And.intro ho7 b6)
          clear ho6 hg6 ho7 b6 hown hbel hcx e7 hv k5
          generalize p ++ [2 * x] = q at *
          go_wp2
          go_roundw
          case rel => exact ⟨k + 1, q, A6, c6, by omega, by go_num, rfl, HP2, hpl, D.out.1, D.out.2⟩
          case measure => simp [intOf]; omega
        · have hke : k = v.length := by omega
          subst hke
          have hp := HP.out
          have HE := Lib.hid HD.out
          rw [← hp] at HE
          have u5 := (IL.of_own hown).1
          have hwn : IntKind.i64.wrap (2 * n) = 2 * n := by rw [IntKind.wrap_i64]; omega
          have B5 := below_step B4 hbel
          have j5 := j4.below hbel
          clear HP hp HD HV hown hbel k4 j4 B4
          have T1 := Lib.hid (fun w hi hl => implWFam_any A5 c5 p (2 * n) w hi hl)
          rw [HE.out.1, HE.out.2] at T1
          have hpl : p.length ≤ 1048576 := by omega
          cases hz : wOk p
          · rw [hz] at T1
            have HZ := Lib.hid hz
            clear hz
            go_wp2_with fail
            refine (T1.out _ u5 hpl).mono ?_
            rintro e w6 ⟨A6, c6, rfl, o6, b6⟩
            have u6 := u5.below b6
            have B6 := below_step B5 b6
            clear u5 B5 b6 o6 T1
            go_wp2_with fail
            refine (implWV_any _ _ _ _ u6 hpl).mono ?_
            rw [HZ.out]
            rintro e w7 ⟨rfl, b7⟩
            have B7 := below_step B6 b7
            clear B6 b7 u6
            go_wp2
            go_ret
            exact ⟨rfl, B7⟩
          · rw [hz] at T1
            have HZ := Lib.hid hz
            clear hz
            go_wp2_with fail
            refine (T1.out _ u5 hpl).mono ?_
            rintro e w6 ⟨A6, c6, rfl, o6, b6⟩
            have g6 := o6.iss
            have u6 := u5.below b6
            have j6 := j5.below b6
            have B6 := below_step B5 b6
            clear u5 j5 B5 b6 o6 T1
            go_wp2_with fail
            refine (implWV_any _ _ _ _ u6 hpl).mono ?_
            rw [HZ.out]
            rintro e w7 ⟨rfl, b7⟩
            have g7 := g6.below b7
            have j7 := j6.below b7
            have B7 := below_step B6 b7
            clear B6 b7 u6 g6 j6
            go_wp2_with fail
            refine (sameSets_yes _ _ _ _ _ _ g7 j7 (by omega) sO).mono ?_
            rintro e w8 ⟨rfl, d8⟩
            have B8 := below_step B7 d8.below
            clear B7 d8 g7 j7
            go_wp2
            go_ret
            exact ⟨rfl, B8⟩
  · go_enter Try.func12, Try.ntmps12
    go_wp2
    go_ret
    exact ⟨rfl, Below.refl _ _⟩
end Go.Proofs.Ytmpcnefmlnkkjaa
