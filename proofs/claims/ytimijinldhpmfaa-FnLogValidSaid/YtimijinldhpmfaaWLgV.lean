/- The walk of chapter 31's law on valid logs. -/
import Derived.Test.YtimijinldhpmfaaWLgC
namespace Go.Proofs.Ytimijinldhpmfaa
open Go.RowKit

theorem okL_more {l : List En} {n : Int} {x : En} (hx : okE n x = false) : okL (l ++ [x]) n = false :=
  okL_no (k := l.length) (x := x) (by simp) hx
theorem okE_both (n : Int) : okE n (1, 1) = false := by rw [okE_chg (by omega)]; simp
theorem okE_none (n : Int) : okE n (0, 0) = false := by rw [okE_cmd (by omega)]; decide
set_option linter.unusedVariables false in
set_option maxRecDepth 100000 in
set_option maxHeartbeats 3200000 in
theorem walkLogValidL (A A' : Option Addr) (c c' : Nat) (l l' : List Int) (w : World) (ha : BL w A l) (hc : l.length ≤ c) (hm : l.length ≤ maxLen) (hmc : c ≤ maxLen) (ha' : BL w A' l') (hc' : l'.length ≤ c') (hm' : l'.length ≤ maxLen) (hmc' : c' ≤ maxLen) :
    Calls Try.prog 10 #[.slice A l.length c, .slice A' l'.length c'] w fun e w' => e = .returned (.bool true) ∧ Below w.heap.size w w' := by
  have hm1 := hm
  unfold maxLen at hm1
  have hm2 := hm'
  unfold maxLen at hm2
  by_cases hb : l.length ≤ 1048576 ∧ l'.length ≤ 1048576
  · have ez : decide (1048576 < (l.length : Int)) = false := by simp; omega
    have ez2 : decide (1048576 < (l'.length : Int)) = false := by simp; omega
    obtain ⟨hl, hl2⟩ := hb
    clear ha' hc' hm' hmc'
    obtain ⟨i0, hi0, hz0, hz1, hz2⟩ := info_parts en_info
    go_enter Try.func10, Try.ntmps10
    go_wp2_with fail
    refine (dDrawLogValid_any _ _ _ _ ha hc hm hmc).mono ?_
    rintro e w1 ⟨L, n, B, d, rfl, n1, n4, hL, D⟩
    obtain ⟨hE, hd, hdm, ⟨b, rfl⟩, b1⟩ := D
    clear ha hc hm hmc
    go_wp2_with fail
    refine (iLogValid_any _ _ _ _ _ hE (by omega)).mono ?_
    rintro e w2 ⟨rfl, b2⟩
    have hE := hE.below b2
    have b2 := below_step b1 b2
    clear b1
    go_wp2_with fail
    refine (sLogValid_any _ _ _ _ _ hE (by omega)).mono ?_
    rintro e w3 ⟨rfl, b3⟩
    have hE := hE.below b3
    have B3 := below_step b2 b3
    clear b2 b3
    by_cases hok : okL L n = true
    · have HO := Lib.hid hok
      have hL12 := (okL_parts hok).2.2
      rw [hok]
      clear hok
      have HT := tmod_nat l'.length ((L.length : Int) + 1)
      obtain ⟨k, hk⟩ : ∃ k : Nat, (l'.length : Int) % ((L.length : Int) + 1) = k := ⟨_, (Int.toNat_of_nonneg (mod_lt _ (by omega)).1).symm⟩
      have hkl : k ≤ L.length := by have := (mod_lt l'.length (m := (L.length : Int) + 1) (by omega)).2; omega
      rw [hk] at HT
      clear hk
      have hz : ((L.length : Int) + 1 == 0) = false := by simp; omega
      have HK := Lib.hid (show (L.take k).length = k by rw [List.length_take]; omega)
      have HC := Lib.hid (ens_cells (L.take k))
      have HCL := Lib.hid (show (ens (L.take k)).length = k * 2 by rw [ens_len, HK.out])
      have hk0 : (0 : Int) ≤ (k : Int) := by omega
      have hkd : (k : Int) ≤ (d : Int) := by omega
      have T0 := fun w' (h : EnL w' (some ⟨b, 0, none⟩) (L.take k)) => iLogValid_any (some ⟨b, 0, none⟩) d (L.take k) n w' h (by rw [HK.out]; omega)
      have EO := okL_take k HO.out
      simp only [HK.out, EO] at T0
      have T1 := fun w' A c (h : EnL w' A (L.take k ++ [((1, 1) : En)])) => iLogValid_any A c (L.take k ++ [((1, 1) : En)]) n w' h (by rw [List.length_append, HK.out]; simp; omega)
      have HK1 := Lib.hid (show ∀ x : En, (L.take k ++ [x]).length = k + 1 from fun x => by rw [List.length_append, HK.out]; rfl)
      simp only [HK1.out, okL_more (okE_both n)] at T1
      have T2 := fun w' A c (h : EnL w' A (L.take k ++ [((0, 0) : En)])) => iLogValid_any A c (L.take k ++ [((0, 0) : En)]) n w' h (by rw [List.length_append, HK.out]; simp; omega)
      simp only [HK1.out, okL_more (okE_none n)] at T2
      have HT0 := Lib.hid T0
      have HT1 := Lib.hid T1
      have HT2 := Lib.hid T2
      clear T0 T1 T2 EO HO
      have o0 : (w3.alloc (.cells #[] 28)).ownsRow w3.heap.size 28 2 (.slice (some ⟨w3.heap.size, 0, none⟩) 0 0) 0 [] := World.ownsRow_made w3 #[] 0 (Nat.le_refl _) (by unfold maxLen; omega) (by simp)
      have k2 := (Below.refl _ w3).alloc (Nat.le_refl _) (.cells #[] 28)
      have H3 := Lib.hid ((hE.take (k := k)).below k2).news
      have hsz3 : w3.heap.size ≤ (w3.alloc (.cells #[] 28)).heap.size := by simp
      clear k2
      go_wp2_with (at_builtin; refine wpList_append_two _ rfl (.tmp 47) (.tmp 50) 23 rfl w3.heap.size 28 i0 (.agg #[.int .i64 0, .int .i64 0]) 16 Try.underlying23 hi0 hz0 hz1 hz2 rfl _ _ _ rfl o0 (some ⟨b, 0, none⟩) k d (ens (L.take k)) (by intro h; cases h) rfl HCL.out H3.out HC.out (by unfold maxLen; omega) (by omega) hsz3 ?_)
      intro v1 u1 ho3 hg3
      have ho3 : u1.ownsRow w3.heap.size 28 2 v1 (L.take k).length (ens (L.take k)) := by rw [HK.out]; simpa using ho3
      obtain ⟨A3, c3, rfl, p3⟩ := en_own rfl ho3
      have B4 := Lib.hid (show Below w3.heap.size w3 u1 from ((Below.refl _ w3).alloc (Nat.le_refl _) _).grown hg3 (by simp) (fun k hk => by cases hk; exact Nat.le_refl _))
      have hsz4 : w3.heap.size ≤ (u1.alloc (.cells #[.int .i64 1, .int .i64 1] 28)).heap.size := by have := B4.out.size; simp; omega
      have P4 := p3.alloc (.cells #[.int .i64 1, .int .i64 1] 28)
      have PL := Lib.hid P4.lt
      rw [HK.out] at P4
      rw [HK.out]
      clear ho3 hg3 o0 hsz3 p3 H3
      go_wp2_with (at_builtin; refine wpList_append_own _ rfl (.tmp 51) (.tmp 53) 23 rfl w3.heap.size 28 i0 (.agg #[.int .i64 0, .int .i64 0]) 2 16 Try.underlying23 hi0 hz0 hz1 hz2 rfl (by decide) _ _ _ rfl P4 ⟨u1.heap.size, 0, none⟩ 1 1 [.int .i64 1, .int .i64 1] rfl rfl (en_two (x := (1, 1))) (ints_oneCell .i64 [1, 1]) (by unfold maxLen; omega) (by omega) hsz4 ?_)
      intro v2 w5 ho5 hg5 _
      rw [ens_one (L.take k) (1, 1)] at ho5
      obtain ⟨A5, c5, rfl, p5⟩ := en_own (by rw [List.length_append, HK.out]; rfl) ho5
      have b5 := (B4.out.alloc B4.out.size (.cells #[.int .i64 1, .int .i64 1] 28)).grown hg5 hsz4 (fun k hk => (PL.out k (by rw [HK.out]; exact hk)).1)
      have I5 := en_row p5
      clear ho5 hg5 p5 P4 PL hsz4 B4
      have B5 := below_step B3 b5
      have hE5 := hE.below b5
      clear B3 b5 hE
      have o0 : (w5.alloc (.cells #[] 28)).ownsRow w5.heap.size 28 2 (.slice (some ⟨w5.heap.size, 0, none⟩) 0 0) 0 [] := World.ownsRow_made w5 #[] 0 (Nat.le_refl _) (by unfold maxLen; omega) (by simp)
      have k2 := (Below.refl _ w5).alloc (Nat.le_refl _) (.cells #[] 28)
      have H3 := Lib.hid ((hE5.take (k := k)).below k2).news
      have hsz3 : w5.heap.size ≤ (w5.alloc (.cells #[] 28)).heap.size := by simp
      clear k2
      go_wp2_with (at_builtin; refine wpList_append_two _ rfl (.tmp 55) (.tmp 58) 23 rfl w5.heap.size 28 i0 (.agg #[.int .i64 0, .int .i64 0]) 16 Try.underlying23 hi0 hz0 hz1 hz2 rfl _ _ _ rfl o0 (some ⟨b, 0, none⟩) k d (ens (L.take k)) (by intro h; cases h) rfl HCL.out H3.out HC.out (by unfold maxLen; omega) (by omega) hsz3 ?_)
      intro v1 u1 ho3 hg3
      have ho3 : u1.ownsRow w5.heap.size 28 2 v1 (L.take k).length (ens (L.take k)) := by rw [HK.out]; simpa using ho3
      obtain ⟨A3, c3, rfl, p3⟩ := en_own rfl ho3
      have B4 := Lib.hid (show Below w5.heap.size w5 u1 from ((Below.refl _ w5).alloc (Nat.le_refl _) _).grown hg3 (by simp) (fun k hk => by cases hk; exact Nat.le_refl _))
      have hsz4 : w5.heap.size ≤ (u1.alloc (.cells #[.int .i64 0, .int .i64 0] 28)).heap.size := by have := B4.out.size; simp; omega
      have P4 := p3.alloc (.cells #[.int .i64 0, .int .i64 0] 28)
      have PL := Lib.hid P4.lt
      rw [HK.out] at P4
      rw [HK.out]
      clear ho3 hg3 o0 hsz3 p3 H3
      go_wp2_with (at_builtin; refine wpList_append_own _ rfl (.tmp 59) (.tmp 61) 23 rfl w5.heap.size 28 i0 (.agg #[.int .i64 0, .int .i64 0]) 2 16 Try.underlying23 hi0 hz0 hz1 hz2 rfl (by decide) _ _ _ rfl P4 ⟨u1.heap.size, 0, none⟩ 1 1 [.int .i64 0, .int .i64 0] rfl rfl (en_two (x := (0, 0))) (ints_oneCell .i64 [0, 0]) (by unfold maxLen; omega) (by omega) hsz4 ?_)
      intro v2 w7 ho5 hg5 _
      rw [ens_one (L.take k) (0, 0)] at ho5
      obtain ⟨A7, c7, rfl, p5⟩ := en_own (by rw [List.length_append, HK.out]; rfl) ho5
      have b5 := (B4.out.alloc B4.out.size (.cells #[.int .i64 0, .int .i64 0] 28)).grown hg5 hsz4 (fun k hk => (PL.out k (by rw [HK.out]; exact hk)).1)
      have I7 := en_row p5
      clear ho5 hg5 p5 P4 PL hsz4 B4
      have B7 := below_step B5 b5
      have hE7 := (hE5.below b5).take (k := k)
      have I5 := I5.below b5
      clear B5 b5 hE5
      go_wp2_with fail
      refine (HT0.out _ hE7).mono ?_
      rintro e w8 ⟨rfl, b8⟩
      have B8 := below_step B7 b8
      have I5 := I5.below b8
      have I7 := I7.below b8
      clear B7 b8 hE7
      rw [HK1.out] at *
      go_wp2_with fail
      refine (HT1.out _ _ _ I5).mono ?_
      rintro e w9 ⟨rfl, b9⟩
      have B9 := below_step B8 b9
      have I7 := I7.below b9
      clear B8 b9 I5
      go_wp2_with fail
      refine (HT2.out _ _ _ I7).mono ?_
      rintro e wz ⟨rfl, bz⟩
      have BZ := below_step B9 bz
      have hL12i : decide ((L.length : Int) ≤ 12) = true := by simp; omega
      clear B9 bz I7
      go_wp2
      go_ret
      exact ⟨rfl, BZ⟩
    · rw [Bool.not_eq_true] at hok
      rw [hok]
      have HO := Lib.hid hok
      clear hok
      go_wp2_with fail
      refine (sLogValid_any _ _ _ _ _ hE (by omega)).mono ?_
      rintro e w4 ⟨rfl, b4⟩
      have B4 := below_step B3 b4
      clear B3 b4 hE
      go_wp2
      go_ret
      exact ⟨by simp [HO.out], B4⟩
  · by_cases hl : l.length ≤ 1048576
    · have ez : decide (1048576 < (l.length : Int)) = false := by simp; omega
      have ez2 : decide (1048576 < (l'.length : Int)) = true := by simp; omega
      clear ha hc hm hmc hl hb ha' hc' hm' hmc'
      go_enter Try.func10, Try.ntmps10
      go_wp2
      go_ret
      exact ⟨rfl, Below.refl _ _⟩
    · have ez : decide (1048576 < (l.length : Int)) = true := by simp; omega
      clear ha hc hm hmc hl hb ha' hc' hm' hmc'
      go_enter Try.func10, Try.ntmps10
      go_wp2
      go_ret
      exact ⟨rfl, Below.refl _ _⟩

end Go.Proofs.Ytimijinldhpmfaa
