/- The walk of the law that equal votes give threshold quorums. -/
import Derived.Test.YtmpcnefmlnkkjaaDoorWThr2g
import Derived.Test.YtmpcnefmlnkkjaaDoorWLawsg
import Derived.Test.YtmpcnefmlnkkjaaDoorGc
import Derived.Test.YtmpcnefmlnkkjaaDoorGd
import Derived.Test.YtmpcnefmlnkkjaaDoorGb
import Derived.Test.YtmpcnefmlnkkjaaDoorGh
namespace Go.Proofs.YtmpcnefmlnkkjaaDoor
open Go.RowKit

theorem unif_sum {n s : Nat} (hn : n ≤ 6) (hs : s < 64) : ((both inter ((mem 63).take n) (mem s)).length : Int) = wsum (List.replicate n 1) s := by
  have H : ∀ n : Fin 7, ∀ s : Fin 64, ((both inter ((mem 63).take n.val) (mem s.val)).length : Int) = wsum (List.replicate n.val 1) s.val := by decide +kernel
  exact H ⟨n, by omega⟩ ⟨s, hs⟩
theorem unif_one {n : Nat} (h1 : 1 ≤ n) (hn : n ≤ 6) : wOk (List.replicate n 1) = true ∧ wsum (List.replicate n 1) 63 = (n : Int) ∧ vld ((mem 63).take n) = true ∧ ((mem 63).take n).length = n := by
  have H : ∀ n : Fin 7, n.val = 0 ∨ (wOk (List.replicate n.val 1) = true ∧ wsum (List.replicate n.val 1) 63 = (n.val : Int) ∧ vld ((mem 63).take n.val) = true ∧ ((mem 63).take n.val).length = n.val) := by decide +kernel
  rcases H ⟨n, by omega⟩ with h | h
  · simp at h; omega
  · exact h
theorem unif {n k : Nat} (h1 : 1 ≤ k) (h2 : k ≤ n) (hn : n ≤ 6) : wfOk (List.replicate n 1) (k : Int) = true ∧ thrOk (k : Int) ((mem 63).take n) = true ∧ okX (thrX (k : Int) ((mem 63).take n)) = true ∧
    expM (thrX (k : Int) ((mem 63).take n)) = enoL (List.replicate n 1) (k : Int) := by
  obtain ⟨a1, a2, a3, a4⟩ := unif_one (n := n) (by omega) hn
  have ht : thrOk (k : Int) ((mem 63).take n) = true := by
    simp only [thrOk, a3, a4, Bool.true_and, Bool.and_eq_true, decide_eq_true_eq]
    omega
  obtain ⟨x, p1, _, _, p4⟩ := thr_all ht
  refine ⟨?_, ht, okX_some p1, ?_⟩
  · simp only [wfOk, a1, a2, Bool.true_and, Bool.and_eq_true, decide_eq_true_eq]
    omega
  · rw [expM_some p1]
    refine List.filter_congr fun s hs => ?_
    have hs6 := List.mem_range.1 hs
    have h5 := p4 (mem s) (vld_mem hs6)
    rw [unif_sum hn hs6] at h5
    simp only [satX, p1, vld_mem hs6, msk_mem hs6, Bool.true_and] at h5
    exact h5
theorem some_fam {v : List Int} {n : Int} (h : wfOk v n = true) : 0 < (outM (enoL v n) true).length := by
  have e : outM (enoL v n) true = Go.Proofs.YtmpcnefmlnkkjaaDoor.mems (mins (enoL v n)) := by simp [outM]
  simp only [wfOk, Bool.and_eq_true, decide_eq_true_eq] at h
  rw [e, mems_len]
  exact List.length_pos_iff.2 (mins_ne (enoL_msk v n) (m := 63) (mem_enoL.2 ⟨by omega, h.2⟩))
theorem il_takeU {w : World} {A : Option Addr} {l : List Int} (h : IL w A l) (n : Nat) : IL w A (l.take n) := by
  rcases h with rfl | ⟨b, off, rfl, hlt, hc⟩
  · left; simp
  · exact .inr ⟨b, off, rfl, hlt, fun j x hx => by
      rw [List.getElem?_take] at hx
      split at hx
      · exact hc j x hx
      · cases hx⟩

set_option maxRecDepth 100000 in
set_option maxHeartbeats 3200000 in
theorem walkUnif (A B : Option Addr) (c d : Nat) (l m : List Int) (w : World) (ha : BL w A l) (hc : l.length ≤ c) (hmc : c ≤ maxLen) (hd : m.length ≤ d) (hmd : d ≤ maxLen) :
    Calls Tryd.prog 3 #[.slice A l.length c, .slice B m.length d] w fun e w' => e = .returned (.bool true) ∧ Below w.heap.size w w' := by
  obtain ⟨i0, hi0, hz0, hz1, hz2⟩ := info_parts int_info
  have hm := Nat.le_trans hc hmc
  have hmm := Nat.le_trans hd hmd
  have hm1 := hm
  have hm2 := hmm
  unfold maxLen at hm1 hm2
  by_cases hl : l.length ≤ 1048576
  · by_cases hl2 : m.length ≤ 1048576
    · obtain ⟨ml, hml⟩ : ∃ ml, ml = m.length := ⟨_, rfl⟩
      rw [← hml] at hl2 hm2 ⊢
      clear hml hmm hd hmd
      go_enter Tryd.func3, Tryd.ntmps3
      go_wp2_with fail
      refine (drawWFam_any _ _ _ _ ha hc hm hmc).mono ?_
      rintro e w1 ⟨v, n, A1, c1, hv7, hn0, hn1, rfl, i1, B1⟩
      clear ha hm hc hmc
      have hvl : v.length ≤ 1048576 := by omega
      have hO := outM_len (enoL v n) (wfOk v n)
      have sO := outM_short (enoL v n) (wfOk v n)
      go_wp2_with fail
      refine (specWFam_any _ _ _ _ _ i1 hvl).mono ?_
      rintro e w2 ⟨A2, c2, rfl, OW, b2⟩
      have i2 := i1.below b2
      have B2 := below_step B1 b2
      clear i1 B1 b2
      go_wp2_with fail
      refine (implWFam_any _ _ _ _ _ i2 hvl).mono ?_
      rintro e w3 ⟨A3, c3, rfl, OG, b3⟩
      have i3 := (OW.below b3).iss
      have j3 := OG.iss
      have B3 := below_step B2 b3
      clear i2 B2 b3 OW OG
      generalize hok : wfOk v n = ok at *
      have HB := Lib.hid hok
      clear hok
      cases ok
      · clear HB
        go_wp2_with fail
        refine (sameSets_yes _ _ _ _ _ _ j3 i3 (by omega) sO).mono ?_
        rintro e w4 ⟨rfl, d4⟩
        have B4 := below_step B3 d4.below
        have i4 := i3.below d4.below
        have j4 := j3.below d4.below
        clear B3 i3 j3 d4
        go_wp2_with fail
        refine (sameSets_yes _ _ _ _ _ _ j4 i4 (by omega) sO).mono ?_
        rintro e w5 ⟨rfl, d5⟩
        have B5 := below_step B4 d5.below
        clear B4 i4 j4 d5
        go_wp2
        go_ret
        exact ⟨rfl, B5⟩
      · have hH0 := some_fam HB.out
        clear HB
        obtain ⟨r6, hr6⟩ : ∃ r, r = ml % 6 := ⟨_, rfl⟩
        have h1 : Int.tmod (ml : Int) 6 = (r6 : Int) := by rw [Int.tmod_eq_emod_of_nonneg (by omega), hr6]; omega
        have h1e : (ml : Int) % 6 = (r6 : Int) := by rw [hr6]; omega
        have hr6l : r6 < 6 := by omega
        obtain ⟨nn, hnn⟩ : ∃ n, n = 1 + r6 := ⟨_, rfl⟩
        have h2 : (1 : Int) + (r6 : Int) = (nn : Int) := by omega
        obtain ⟨q, hq⟩ : ∃ q, q = ml / 6 := ⟨_, rfl⟩
        have h3 : Int.tdiv (ml : Int) 6 = (q : Int) := by rw [Int.tdiv_eq_ediv_of_nonneg (by omega), hq]; omega
        have h3e : (ml : Int) / 6 = (q : Int) := by rw [hq]; omega
        obtain ⟨r2, hr2⟩ : ∃ r, r = q % nn := ⟨_, rfl⟩
        have h4 : Int.tmod (q : Int) (nn : Int) = (r2 : Int) := by rw [Int.tmod_eq_emod_of_nonneg (by omega), hr2]; rfl
        have h4e : (q : Int) % (nn : Int) = (r2 : Int) := by rw [hr2]; rfl
        have hr2l : r2 < nn := by rw [hr2]; exact Nat.mod_lt _ (by omega)
        obtain ⟨kk, hkk⟩ : ∃ k, k = 1 + r2 := ⟨_, rfl⟩
        have h5 : (1 : Int) + (r2 : Int) = (kk : Int) := by omega
        have hn6 : nn ≤ 6 := by omega
        have hn1' : 1 ≤ nn := by omega
        have hk1 : 1 ≤ kk := by omega
        have hkn : kk ≤ nn := by omega
        have hnz : ¬ ((nn : Int) = 0) := by omega
        have hnz2 : nn ≠ 0 := by omega
        have hq9 : (q : Int) ≤ 1048576 := by omega
        clear hr6 hnn hq hr2 hkk
        obtain ⟨u1, u2, u3, u4⟩ := unif hk1 hkn hn6
        obtain ⟨_, _, _, u8⟩ := unif_one hn1' hn6
        have T1 := Lib.hid (fun (A : Option Addr) (c : Nat) (w : World) (hi : IL w A (List.replicate nn 1)) => implWFam_any A c (List.replicate nn 1) (kk : Int) w hi (by simp; omega))
        rw [u1, List.length_replicate] at T1
        have T2 := Lib.hid (fun (A : Option Addr) (c : Nat) (w : World) (hi : IL w A ((mem 63).take nn)) => tI (kk : Int) A c ((mem 63).take nn) w _ _ rfl u2 hi (by omega))
        rw [u8] at T2
        have hXs : (thrX (kk : Int) ((mem 63).take nn)).size ≤ 1048576 := Nat.le_trans (thrX_size _ _) (by omega)
        have T3 := Lib.hid (fun (w : World) => implOfEx_any (thrX (kk : Int) ((mem 63).take nn)) w hXs)
        rw [u3, u4] at T3
        have s5 := outM_short (enoL (List.replicate nn 1) (kk : Int)) true
        have l5 := outM_len (enoL (List.replicate nn 1) (kk : Int)) true
        clear u1 u2 u3 u4 u8
        generalize thrX (kk : Int) ((mem 63).take nn) = X at *
        generalize outM (enoL (List.replicate nn 1) (kk : Int)) true = E at *
        go_wp2_with fail
        refine (sameSets_yes _ _ _ _ _ _ j3 i3 (by omega) sO).mono ?_
        rintro e w4 ⟨rfl, d4⟩
        have B4 := below_step B3 d4.below
        clear B3 i3 j3 d4
        generalize outM (enoL v n) true = H at *
        have ho0 : (w4.alloc (.cells #[] 3)).ownsRow w4.heap.size 3 1 (.slice (some ⟨w4.heap.size, 0, none⟩) 0 0) 0 (List.replicate 0 (Value.int .i64 1)) := World.ownsRow_made w4 #[] 0 (Nat.le_refl _) (by unfold maxLen; omega) (by simp)
        have hb0 : Below w4.heap.size w4 (w4.alloc (.cells #[] 3)) := (Below.refl _ w4).alloc (Nat.le_refl _) _
        have H0 := Lib.hid (And.intro ho0 hb0)
        clear ho0 hb0
        go_wp2
        go_loopw [13, 14] (fun dv i wr => ∃ (j : Nat) (A : Option Addr) (c : Nat), j ≤ nn ∧ i = .int .i64 j ∧ dv = .slice A j c ∧ wr.ownsRow w4.heap.size 3 1 (.slice A j c) j (List.replicate j (Value.int .i64 1)) ∧ Below w4.heap.size w4 wr) (fun _ i _ => nn - (intOf i).toNat)
        case atStart => exact ⟨0, _, _, Nat.zero_le _, rfl, rfl, H0.out.1, H0.out.2⟩
        case round =>
          clear H0
          obtain ⟨j, A5, c5, hj, rfl, rfl, hown, hbel⟩ := hrel
          by_cases hlt : j < nn
          · have hji : (j : Int) < (nn : Int) := by omega
            have hsz := hbel.size
            go_wp2_with (at_builtin; refine wpList_append_own _ rfl (.tmp 83) (.tmp 84) 23 rfl w4.heap.size 3 i0 (.int .i64 0) 1 8 Tryd.underlying23 hi0 hz0 hz1 hz2 rfl (by decide) _ _ _ rfl (hown.alloc _) ⟨wr.heap.size, 0, none⟩ 1 1 [.int .i64 1] rfl rfl (cell_one_new _ _ _) (ints_oneCell .i64 [(1 : Int)]) (by unfold maxLen; omega) (by omega) (by simp; omega) ?_)
            intro v' w6 ho6 hg6 _
            have b6 : Below w4.heap.size w4 w6 := app_gen hown (Nat.le_refl _) hbel hg6
            obtain ⟨A6, c6, rfl⟩ := own_slice ho6
            rw [← List.replicate_succ'] at ho6
            have D := Lib.hid (And.intro ho6 b6)
            clear ho6 hg6 b6 hown hbel
            go_wp2
            go_roundw
            case rel => exact ⟨j + 1, A6, c6, by omega, by go_num, by go_num, D.out.1, D.out.2⟩
            case measure => simp [intOf]; omega
          · have hje : j = nn := by omega
            subst hje
            have hji : ¬ ((j : Int) < (j : Int)) := by omega
            have hmap : List.replicate j (Value.int .i64 1) = (List.replicate j (1 : Int)).map (Value.int .i64) := by simp
            rw [hmap] at hown
            have u5 := (IL.of_own hown).1
            have B5 := below_step B4 hbel
            clear hown hbel B4 hmap
            go_wp2_with fail
            refine (T1.out _ _ _ u5).mono ?_
            rintro e w6 ⟨A6, c6, rfl, o6, b6⟩
            have g6 := o6.iss
            have B6 := below_step B5 b6
            clear u5 B5 b6 o6 T1
            go_wp2_with fail
            refine (allM_any _).mono ?_
            rintro e w7 ⟨A7, c7, rfl, o7, b7⟩
            have x7 := il_takeU (IL.of_own o7).1 j
            obtain ⟨g7', rfl, hbg7, hgl7⟩ := own_form o7 (by decide)
            have hc7 : 6 ≤ c7 := by
              rcases o7.2 with ⟨hv, _⟩ | ⟨g, cap, cur, hv, _, _, hnc, _⟩
              · cases hv
              · injection hv with _ _ hcc
                have h6 : (mem 63).length = 6 := by decide
                omega
            have hl6 : (mem 63).length = 6 := by decide
            have g7 := g6.below b7
            have B7 := below_step B6 b7
            have hsl : ¬ ((j : Int) < 0) := by omega
            have hsl2 : (j : Int) ≤ (c7 : Int) := by omega
            have hsl3 : j ≤ c7 := by omega
            clear o7 b7 B6 g6 hbg7 hgl7
            go_wp2_with fail
            refine (T2.out _ _ _ x7).mono ?_
            rintro e w8 ⟨rfl, b8⟩
            have g8 := g7.below b8
            have B8 := below_step B7 b8
            clear B7 g7 b8 x7 T2
            go_wp2_with fail
            refine (T3.out _).mono ?_
            rintro e w9 ⟨A9, c9, rfl, o9, b9⟩
            have h9 := o9.iss
            have g9 := g8.below b9
            have B9 := below_step B8 b9
            clear B8 g8 b9 o9 T3
            go_wp2_with fail
            refine (sameSets_yes _ _ _ _ _ _ g9 h9 (by omega) s5).mono ?_
            rintro e w10 ⟨rfl, d10⟩
            have B10 := below_step B9 d10.below
            clear B9 g9 h9 d10
            go_wp2
            go_ret
            exact ⟨by simp <;> omega, B10⟩
    · go_enter Tryd.func3, Tryd.ntmps3
      go_wp2_with fail
      go_ret
      exact ⟨rfl, Below.refl _ _⟩
  · go_enter Tryd.func3, Tryd.ntmps3
    go_wp2_with fail
    go_ret
    exact ⟨rfl, Below.refl _ _⟩
end Go.Proofs.YtmpcnefmlnkkjaaDoor
