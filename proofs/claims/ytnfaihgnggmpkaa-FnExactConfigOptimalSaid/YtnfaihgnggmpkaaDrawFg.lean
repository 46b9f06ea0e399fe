/- Drawn quorum systems by their contracts. -/
import Derived.Test.YtnfaihgnggmpkaaGf
import Derived.Test.YtnfaihgnggmpkaaGh
import Derived.Test.YtnfaihgnggmpkaaGi
import Derived.Test.YtnfaihgnggmpkaaDrawOg
namespace Go.Proofs.Ytnfaihgnggmpkaa
open Go.RowKit


set_option maxRecDepth 100000 in
set_option maxHeartbeats 6400000 in
theorem l91Family_any (g p : Nat) (w : World) (h : RdX w g p) (hp : p ≤ 900) :
    Calls Try.prog 17 #[.pointer (some ⟨g, 0, none⟩)] w (DrawnF w g p) := by
  obtain ⟨i0, hi0, hz0, hz1, hz2⟩ := info_parts slice_info
  have hlt := h.lt
  have hbm : Below w.heap.size w (w.alloc (.cells #[] 47)) := (Below.refl _ w).alloc (Nat.le_refl _) _
  have hr1 := h.below hbm
  have hg1 := World.grownBy_alloc w (.cells #[] 47) (some g)
  have h00 : (w.alloc (.cells #[] 47)).ownsRow w.heap.size 47 1 (.slice (some ⟨w.heap.size, 0, none⟩) 0 0) 0 [] := World.ownsRow_made w #[] 0 (Nat.le_refl _) (by unfold maxLen; omega) (by simp)
  have o1 : OSS (w.alloc (.cells #[] 47)) w.heap.size (w.alloc (.cells #[] 47)).heap.size (some ⟨w.heap.size, 0, none⟩) 0 [] := OSS.of_rows h00 (Rws.nil _ _ _)
  clear hbm h h00
  go_enter Try.func17, Try.ntmps17
  go_wp2_with fail
  generalize w.alloc (.cells #[] 47) = w1 at *
  refine (pickX _ _ 3 _ hr1 (by omega) (by omega) (by omega)).mono ?_
  rintro e w2 ⟨s, s0, s1, rfl, hr2, hg2⟩
  have o2 := o1.far hg2 hlt
  have hgr2 := grown_trans hg1 hg2
  clear o1 hr1 hg1 hg2
  by_cases hs0 : s = 0
  · have hs0b : (s == 0) = true := by simpa using hs0
    clear hs0
    go_wp2_with fail
    refine (l91Expr_any _ _ _ hr2 (by omega)).mono ?_
    rintro e w3 ⟨T, q3, hT0, hT, rfl, hr3, hq3, hg3⟩
    have o3 := o2.far hg3 hlt
    have hgr3 := grown_trans hgr2 hg3
    clear o2 hr2 hgr2 hg3
    go_wp2_with fail
    refine (specOfEx_any T _ (by omega)).mono ?_
    rintro e w4 ⟨A4, c4, rfl, o4, b4⟩
    have o4e := o3.below b4
    have o4f := o4.base hgr3.size
    have hr4 := hr3.below b4
    have hgr4 := grown_below hgr3 b4
    have hlen := outM_len65 (expM T) (okX T)
    have hsh := outM_short7 (expM T) (okX T)
    clear o3 o4 hr3 hgr3 b4
    have hlen0 := outM_len (expM T) (okX T)
    generalize outM (expM T) (okX T) = F at *
    generalize okX T = okb at *
    cases okb
    · clear o4f hlen hsh hlen0
      have hlen : ([] : List (List Int)).length ≤ 64 := by simp
      have hsh : Short [] 7 := fun l hl => by cases hl
      obtain ⟨hi, o4e⟩ : ∃ hi, OSS w4 w.heap.size hi (some ⟨w.heap.size, 0, none⟩) 0 [] := ⟨_, o4e⟩
      have hq4 : q3 ≤ p + 40 := by omega
      clear hq3
      go_wp2_with fail
      refine (pickX _ _ 40 _ hr4 (by omega) (by omega) (by omega)).mono ?_
      rintro e w8 ⟨y, y0, y1, rfl, hr8, hg8⟩
      have o8 := o4e.far hg8 hlt
      have hgr8 := grown_trans hgr4 hg8
      clear o4e hr4 hgr4 hg8
      by_cases hy0 : y = 0
      · have hy0b : (y == 0) = true := by simpa using hy0
        clear hy0
        go_wp2_with fail
        refine (pickX _ _ 6 _ hr8 (by omega) (by omega) (by omega)).mono ?_
        rintro e w9 ⟨t, t0, t1, rfl, hr9, hg9⟩
        have o9 := o8.far hg9 hlt
        have hgr9 := grown_trans hgr8 hg9
        have hi9 := o9.hi_le
        have ht1 : IntKind.i64.wrap (1 + t) = 1 + t := by rw [IntKind.wrap_i64]; omega
        have hbA : Below w9.heap.size w9 (w9.alloc (.cells #[.int .i64 (1 + t)] 3)) := (Below.refl _ w9).alloc (Nat.le_refl _) _
        have hrA := hr9.below hbA
        have hgA := grown_below hgr9 hbA
        have HXA := Lib.hid (row_new (w := w9) (cs := [1 + t]) (by simp))
        have hszA : (w9.alloc (.cells #[.int .i64 (1 + t)] 3)).heap.size = w9.heap.size + 1 := World.size_alloc _ _
        have hw9 := hgr9.size
        obtain ⟨rs, hown, hh, hbk, hrw⟩ := o9.below hbA
        have HRW := Lib.hid hrw
        clear hrw hbk hbA o8 o9 hr8 hgr8 hr9 hgr9 hg9
        go_wp2_with (at_builtin; refine wpList_append_own _ rfl (.tmp 58) (.tmp 63) 23 rfl w.heap.size 47 i0 (.slice none 0 0) 1 24 Try.underlying23 hi0 hz0 hz1 hz2 rfl (by decide) _ _ _ rfl (hown.alloc _) ⟨w9.heap.size + 1, 0, none⟩ 1 1 [.slice (some ⟨w9.heap.size, 0, none⟩) 1 1] rfl rfl (by rw [← hszA]; exact cell_one_new _ _ _) (slice_oneCell _ _ _) (by unfold maxLen; omega) (by omega) (by simp; omega) ?_)
        intro v7 w7 ho7 hg7 _
        obtain ⟨A7, c7, rfl, os7⟩ := oss_app HRW.out HXA.out hi9 hw9 (Nat.le_succ _) hown ho7 hg7
        have D := Lib.hid (show DrawnF w g p (.returned (.slice A7 (([] : List (List Int)) ++ [[1 + t]]).length c7)) w7 from ⟨_, A7, c7, _, by have := hlen; rw [List.length_append]; show List.length _ + 1 ≤ 65; omega, short_snoc hsh (by simp), rfl, os7, rd_app hrA hlt hown hg7, by omega, grown_app hgA hown hg7⟩)
        clear os7 ho7 hg7 hown HRW HXA hrA hgA
        go_wp2
        go_ret
        exact D.out
      · have hy0b : (y == 0) = false := by simpa using hy0
        by_cases hy1 : y = 1
        · have hy1b : (y == 1) = true := by simpa using hy1
          clear hy0 hy1
          have hi9 := o8.hi_le
          have hbA : Below w8.heap.size w8 (w8.alloc (.cells #[] 3)) := (Below.refl _ w8).alloc (Nat.le_refl _) _
          have hrA := hr8.below hbA
          have hgA := grown_below hgr8 hbA
          have HXA := Lib.hid (row_new (w := w8) (cs := []) (by simp))
          have hszA : (w8.alloc (.cells #[] 3)).heap.size = w8.heap.size + 1 := World.size_alloc _ _
          have hw9 := hgr8.size
          obtain ⟨rs, hown, hh, hbk, hrw⟩ := o8.below hbA
          have HRW := Lib.hid hrw
          clear hrw hbk hbA o8 hr8 hgr8
          go_wp2_with (at_builtin; refine wpList_append_own _ rfl (.tmp 67) (.tmp 69) 23 rfl w.heap.size 47 i0 (.slice none 0 0) 1 24 Try.underlying23 hi0 hz0 hz1 hz2 rfl (by decide) _ _ _ rfl (hown.alloc _) ⟨w8.heap.size + 1, 0, none⟩ 1 1 [.slice (some ⟨w8.heap.size, 0, none⟩) 0 0] rfl rfl (by rw [← hszA]; exact cell_one_new _ _ _) (slice_oneCell _ _ _) (by unfold maxLen; omega) (by omega) (by simp; omega) ?_)
          intro v7 w7 ho7 hg7 _
          obtain ⟨A7, c7, rfl, os7⟩ := oss_app HRW.out HXA.out hi9 hw9 (Nat.le_succ _) hown ho7 hg7
          have D := Lib.hid (show DrawnF w g p (.returned (.slice A7 (([] : List (List Int)) ++ [[]]).length c7)) w7 from ⟨_, A7, c7, _, by have := hlen; rw [List.length_append]; show List.length _ + 1 ≤ 65; omega, short_snoc hsh (by simp), rfl, os7, rd_app hrA hlt hown hg7, by omega, grown_app hgA hown hg7⟩)
          clear os7 ho7 hg7 hown HRW HXA hrA hgA
          go_wp2
          go_ret
          exact D.out
        · have hy1b : (y == 1) = false := by simpa using hy1
          have D := Lib.hid (show DrawnF w g p (.returned (.slice (some ⟨w.heap.size, 0, none⟩) ([] : List (List Int)).length 0)) w8 from ⟨([] : List (List Int)), _, _, _, by omega, hsh, rfl, o8.hi o8.hi_le (Nat.le_refl _), hr8, by omega, hgr8⟩)
          clear hy0 hy1 o8 hr8 hgr8
          go_wp2
          go_ret
          exact D.out
    · clear o4e hlen
      have hlen : F.length ≤ 64 := by omega
      obtain ⟨hi, o4e⟩ : ∃ hi, OSS w4 w.heap.size hi A4 c4 F := ⟨_, o4f⟩
      have hq4 : q3 ≤ p + 40 := by omega
      clear hq3 o4f
      go_wp2_with fail
      refine (pickX _ _ 40 _ hr4 (by omega) (by omega) (by omega)).mono ?_
      rintro e w8 ⟨y, y0, y1, rfl, hr8, hg8⟩
      have o8 := o4e.far hg8 hlt
      have hgr8 := grown_trans hgr4 hg8
      clear o4e hr4 hgr4 hg8
      by_cases hy0 : y = 0
      · have hy0b : (y == 0) = true := by simpa using hy0
        clear hy0
        go_wp2_with fail
        refine (pickX _ _ 6 _ hr8 (by omega) (by omega) (by omega)).mono ?_
        rintro e w9 ⟨t, t0, t1, rfl, hr9, hg9⟩
        have o9 := o8.far hg9 hlt
        have hgr9 := grown_trans hgr8 hg9
        have hi9 := o9.hi_le
        have ht1 : IntKind.i64.wrap (1 + t) = 1 + t := by rw [IntKind.wrap_i64]; omega
        have hbA : Below w9.heap.size w9 (w9.alloc (.cells #[.int .i64 (1 + t)] 3)) := (Below.refl _ w9).alloc (Nat.le_refl _) _
        have hrA := hr9.below hbA
        have hgA := grown_below hgr9 hbA
        have HXA := Lib.hid (row_new (w := w9) (cs := [1 + t]) (by simp))
        have hszA : (w9.alloc (.cells #[.int .i64 (1 + t)] 3)).heap.size = w9.heap.size + 1 := World.size_alloc _ _
        have hw9 := hgr9.size
        obtain ⟨rs, hown, hh, hbk, hrw⟩ := o9.below hbA
        have HRW := Lib.hid hrw
        clear hrw hbk hbA o8 o9 hr8 hgr8 hr9 hgr9 hg9
        go_wp2_with (at_builtin; refine wpList_append_own _ rfl (.tmp 58) (.tmp 63) 23 rfl w.heap.size 47 i0 (.slice none 0 0) 1 24 Try.underlying23 hi0 hz0 hz1 hz2 rfl (by decide) _ _ _ rfl (hown.alloc _) ⟨w9.heap.size + 1, 0, none⟩ 1 1 [.slice (some ⟨w9.heap.size, 0, none⟩) 1 1] rfl rfl (by rw [← hszA]; exact cell_one_new _ _ _) (slice_oneCell _ _ _) (by unfold maxLen; omega) (by omega) (by simp; omega) ?_)
        intro v7 w7 ho7 hg7 _
        obtain ⟨A7, c7, rfl, os7⟩ := oss_app HRW.out HXA.out hi9 hw9 (Nat.le_succ _) hown ho7 hg7
        have D := Lib.hid (show DrawnF w g p (.returned (.slice A7 (F ++ [[1 + t]]).length c7)) w7 from ⟨_, A7, c7, _, by have := hlen; rw [List.length_append]; show List.length _ + 1 ≤ 65; omega, short_snoc hsh (by simp), rfl, os7, rd_app hrA hlt hown hg7, by omega, grown_app hgA hown hg7⟩)
        clear os7 ho7 hg7 hown HRW HXA hrA hgA
        go_wp2
        go_ret
        exact D.out
      · have hy0b : (y == 0) = false := by simpa using hy0
        by_cases hy1 : y = 1
        · have hy1b : (y == 1) = true := by simpa using hy1
          clear hy0 hy1
          have hi9 := o8.hi_le
          have hbA : Below w8.heap.size w8 (w8.alloc (.cells #[] 3)) := (Below.refl _ w8).alloc (Nat.le_refl _) _
          have hrA := hr8.below hbA
          have hgA := grown_below hgr8 hbA
          have HXA := Lib.hid (row_new (w := w8) (cs := []) (by simp))
          have hszA : (w8.alloc (.cells #[] 3)).heap.size = w8.heap.size + 1 := World.size_alloc _ _
          have hw9 := hgr8.size
          obtain ⟨rs, hown, hh, hbk, hrw⟩ := o8.below hbA
          have HRW := Lib.hid hrw
          clear hrw hbk hbA o8 hr8 hgr8
          go_wp2_with (at_builtin; refine wpList_append_own _ rfl (.tmp 67) (.tmp 69) 23 rfl w.heap.size 47 i0 (.slice none 0 0) 1 24 Try.underlying23 hi0 hz0 hz1 hz2 rfl (by decide) _ _ _ rfl (hown.alloc _) ⟨w8.heap.size + 1, 0, none⟩ 1 1 [.slice (some ⟨w8.heap.size, 0, none⟩) 0 0] rfl rfl (by rw [← hszA]; exact cell_one_new _ _ _) (slice_oneCell _ _ _) (by unfold maxLen; omega) (by omega) (by simp; omega) ?_)
          intro v7 w7 ho7 hg7 _
          obtain ⟨A7, c7, rfl, os7⟩ := oss_app HRW.out HXA.out hi9 hw9 (Nat.le_succ _) hown ho7 hg7
          have D := Lib.hid (show DrawnF w g p (.returned (.slice A7 (F ++ [[]]).length c7)) w7 from ⟨_, A7, c7, _, by have := hlen; rw [List.length_append]; show List.length _ + 1 ≤ 65; omega, short_snoc hsh (by simp), rfl, os7, rd_app hrA hlt hown hg7, by omega, grown_app hgA hown hg7⟩)
          clear os7 ho7 hg7 hown HRW HXA hrA hgA
          go_wp2
          go_ret
          exact D.out
        · have hy1b : (y == 1) = false := by simpa using hy1
          have D := Lib.hid (show DrawnF w g p (.returned (.slice A4 F.length c4)) w8 from ⟨F, _, _, _, by omega, hsh, rfl, o8.hi o8.hi_le (Nat.le_refl _), hr8, by omega, hgr8⟩)
          clear hy0 hy1 o8 hr8 hgr8
          go_wp2
          go_ret
          exact D.out
  · have hs0b : (s == 0) = false := by simpa using hs0
    by_cases hs1 : s = 1
    · have hs1b : (s == 1) = true := by simpa using hs1
      clear hs0 hs1
      go_wp2_with fail
      refine (l91Weights_any _ _ _ hr2 (by omega)).mono ?_
      rintro e w3 ⟨v, A3, c3, q3, hv7, rfl, ov3, hr3, hq3, hg3⟩
      have o3 := o2.far hg3 hlt
      have hgr3 := grown_trans hgr2 hg3
      have hg3l : g < w2.heap.size := Nat.lt_of_lt_of_le hlt hgr2.size
      clear o2 hr2 hgr2 hg3
      go_wp2_with fail
      refine (pickX _ _ 8 _ hr3 (by omega) (by omega) (by omega)).mono ?_
      rintro e w3b ⟨t, t0, t1, rfl, hr3b, hg3b⟩
      have iv := (IL.of_own (kept_far ov3 hg3b hg3l)).1
      have o3b := o3.far hg3b hlt
      have hgr3b := grown_trans hgr3 hg3b
      have ht1 : IntKind.i64.wrap (1 + t) = 1 + t := by rw [IntKind.wrap_i64]; omega
      clear ov3 o3 hr3 hgr3 hg3b
      go_wp2_with fail
      refine (specWFam_any _ _ _ _ _ iv (by omega)).mono ?_
      rintro e w4 ⟨A4, c4, rfl, o4, b4⟩
      have o4e := o3b.below b4
      have o4f := o4.base hgr3b.size
      have hr4 := hr3b.below b4
      have hgr4 := grown_below hgr3b b4
      have hsh := outM_short7 (enoL v (1 + t)) (wfOk v (1 + t))
      have hlen0 := outM_len (enoL v (1 + t)) (wfOk v (1 + t))
      clear o3b o4 hr3b hgr3b b4
      generalize outM (enoL v (1 + t)) (wfOk v (1 + t)) = F at *
      generalize wfOk v (1 + t) = okb at *
      cases okb
      · clear o4f hsh hlen0
        have hlen : ([] : List (List Int)).length ≤ 64 := by simp
        have hsh : Short [] 7 := fun l hl => by cases hl
        obtain ⟨hi, o4e⟩ : ∃ hi, OSS w4 w.heap.size hi (some ⟨w.heap.size, 0, none⟩) 0 [] := ⟨_, o4e⟩
        obtain ⟨q4, hq4, hr4⟩ : ∃ q, q ≤ p + 40 ∧ RdX w4 g q := ⟨_, by omega, hr4⟩
        go_wp2_with fail
        refine (pickX _ _ 40 _ hr4 (by omega) (by omega) (by omega)).mono ?_
        rintro e w8 ⟨y, y0, y1, rfl, hr8, hg8⟩
        have o8 := o4e.far hg8 hlt
        have hgr8 := grown_trans hgr4 hg8
        clear o4e hr4 hgr4 hg8
        by_cases hy0 : y = 0
        · have hy0b : (y == 0) = true := by simpa using hy0
          clear hy0
          go_wp2_with fail
          refine (pickX _ _ 6 _ hr8 (by omega) (by omega) (by omega)).mono ?_
          rintro e w9 ⟨t, t0, t1, rfl, hr9, hg9⟩
          have o9 := o8.far hg9 hlt
          have hgr9 := grown_trans hgr8 hg9
          have hi9 := o9.hi_le
          have ht1 : IntKind.i64.wrap (1 + t) = 1 + t := by rw [IntKind.wrap_i64]; omega
          have hbA : Below w9.heap.size w9 (w9.alloc (.cells #[.int .i64 (1 + t)] 3)) := (Below.refl _ w9).alloc (Nat.le_refl _) _
          have hrA := hr9.below hbA
          have hgA := grown_below hgr9 hbA
          have HXA := Lib.hid (row_new (w := w9) (cs := [1 + t]) (by simp))
          have hszA : (w9.alloc (.cells #[.int .i64 (1 + t)] 3)).heap.size = w9.heap.size + 1 := World.size_alloc _ _
          have hw9 := hgr9.size
          obtain ⟨rs, hown, hh, hbk, hrw⟩ := o9.below hbA
          have HRW := Lib.hid hrw
          clear hrw hbk hbA o8 o9 hr8 hgr8 hr9 hgr9 hg9
          go_wp2_with (at_builtin; refine wpList_append_own _ rfl (.tmp 58) (.tmp 63) 23 rfl w.heap.size 47 i0 (.slice none 0 0) 1 24 Try.underlying23 hi0 hz0 hz1 hz2 rfl (by decide) _ _ _ rfl (hown.alloc _) ⟨w9.heap.size + 1, 0, none⟩ 1 1 [.slice (some ⟨w9.heap.size, 0, none⟩) 1 1] rfl rfl (by rw [← hszA]; exact cell_one_new _ _ _) (slice_oneCell _ _ _) (by unfold maxLen; omega) (by omega) (by simp; omega) ?_)
          intro v7 w7 ho7 hg7 _
          obtain ⟨A7, c7, rfl, os7⟩ := oss_app HRW.out HXA.out hi9 hw9 (Nat.le_succ _) hown ho7 hg7
          have D := Lib.hid (show DrawnF w g p (.returned (.slice A7 (([] : List (List Int)) ++ [[1 + t]]).length c7)) w7 from ⟨_, A7, c7, _, by have := hlen; rw [List.length_append]; show List.length _ + 1 ≤ 65; omega, short_snoc hsh (by simp), rfl, os7, rd_app hrA hlt hown hg7, by omega, grown_app hgA hown hg7⟩)
          clear os7 ho7 hg7 hown HRW HXA hrA hgA
          go_wp2
          go_ret
          exact D.out
        · have hy0b : (y == 0) = false := by simpa using hy0
          by_cases hy1 : y = 1
          · have hy1b : (y == 1) = true := by simpa using hy1
            clear hy0 hy1
            have hi9 := o8.hi_le
            have hbA : Below w8.heap.size w8 (w8.alloc (.cells #[] 3)) := (Below.refl _ w8).alloc (Nat.le_refl _) _
            have hrA := hr8.below hbA
            have hgA := grown_below hgr8 hbA
            have HXA := Lib.hid (row_new (w := w8) (cs := []) (by simp))
            have hszA : (w8.alloc (.cells #[] 3)).heap.size = w8.heap.size + 1 := World.size_alloc _ _
            have hw9 := hgr8.size
            obtain ⟨rs, hown, hh, hbk, hrw⟩ := o8.below hbA
            have HRW := Lib.hid hrw
            clear hrw hbk hbA o8 hr8 hgr8
            go_wp2_with (at_builtin; refine wpList_append_own _ rfl (.tmp 67) (.tmp 69) 23 rfl w.heap.size 47 i0 (.slice none 0 0) 1 24 Try.underlying23 hi0 hz0 hz1 hz2 rfl (by decide) _ _ _ rfl (hown.alloc _) ⟨w8.heap.size + 1, 0, none⟩ 1 1 [.slice (some ⟨w8.heap.size, 0, none⟩) 0 0] rfl rfl (by rw [← hszA]; exact cell_one_new _ _ _) (slice_oneCell _ _ _) (by unfold maxLen; omega) (by omega) (by simp; omega) ?_)
            intro v7 w7 ho7 hg7 _
            obtain ⟨A7, c7, rfl, os7⟩ := oss_app HRW.out HXA.out hi9 hw9 (Nat.le_succ _) hown ho7 hg7
            have D := Lib.hid (show DrawnF w g p (.returned (.slice A7 (([] : List (List Int)) ++ [[]]).length c7)) w7 from ⟨_, A7, c7, _, by have := hlen; rw [List.length_append]; show List.length _ + 1 ≤ 65; omega, short_snoc hsh (by simp), rfl, os7, rd_app hrA hlt hown hg7, by omega, grown_app hgA hown hg7⟩)
            clear os7 ho7 hg7 hown HRW HXA hrA hgA
            go_wp2
            go_ret
            exact D.out
          · have hy1b : (y == 1) = false := by simpa using hy1
            have D := Lib.hid (show DrawnF w g p (.returned (.slice (some ⟨w.heap.size, 0, none⟩) ([] : List (List Int)).length 0)) w8 from ⟨([] : List (List Int)), _, _, _, by omega, hsh, rfl, o8.hi o8.hi_le (Nat.le_refl _), hr8, by omega, hgr8⟩)
            clear hy0 hy1 o8 hr8 hgr8
            go_wp2
            go_ret
            exact D.out
      · clear o4e
        have hlen : F.length ≤ 64 := by omega
        obtain ⟨hi, o4e⟩ : ∃ hi, OSS w4 w.heap.size hi A4 c4 F := ⟨_, o4f⟩
        obtain ⟨q4, hq4, hr4⟩ : ∃ q, q ≤ p + 40 ∧ RdX w4 g q := ⟨_, by omega, hr4⟩
        clear o4f
        go_wp2_with fail
        refine (pickX _ _ 40 _ hr4 (by omega) (by omega) (by omega)).mono ?_
        rintro e w8 ⟨y, y0, y1, rfl, hr8, hg8⟩
        have o8 := o4e.far hg8 hlt
        have hgr8 := grown_trans hgr4 hg8
        clear o4e hr4 hgr4 hg8
        by_cases hy0 : y = 0
        · have hy0b : (y == 0) = true := by simpa using hy0
          clear hy0
          go_wp2_with fail
          refine (pickX _ _ 6 _ hr8 (by omega) (by omega) (by omega)).mono ?_
          rintro e w9 ⟨t, t0, t1, rfl, hr9, hg9⟩
          have o9 := o8.far hg9 hlt
          have hgr9 := grown_trans hgr8 hg9
          have hi9 := o9.hi_le
          have ht1 : IntKind.i64.wrap (1 + t) = 1 + t := by rw [IntKind.wrap_i64]; omega
          have hbA : Below w9.heap.size w9 (w9.alloc (.cells #[.int .i64 (1 + t)] 3)) := (Below.refl _ w9).alloc (Nat.le_refl _) _
          have hrA := hr9.below hbA
          have hgA := grown_below hgr9 hbA
          have HXA := Lib.hid (row_new (w := w9) (cs := [1 + t]) (by simp))
          have hszA : (w9.alloc (.cells #[.int .i64 (1 + t)] 3)).heap.size = w9.heap.size + 1 := World.size_alloc _ _
          have hw9 := hgr9.size
          obtain ⟨rs, hown, hh, hbk, hrw⟩ := o9.below hbA
          have HRW := Lib.hid hrw
          clear hrw hbk hbA o8 o9 hr8 hgr8 hr9 hgr9 hg9
          go_wp2_with (at_builtin; refine wpList_append_own _ rfl (.tmp 58) (.tmp 63) 23 rfl w.heap.size 47 i0 (.slice none 0 0) 1 24 Try.underlying23 hi0 hz0 hz1 hz2 rfl (by decide) _ _ _ rfl (hown.alloc _) ⟨w9.heap.size + 1, 0, none⟩ 1 1 [.slice (some ⟨w9.heap.size, 0, none⟩) 1 1] rfl rfl (by rw [← hszA]; exact cell_one_new _ _ _) (slice_oneCell _ _ _) (by unfold maxLen; omega) (by omega) (by simp; omega) ?_)
          intro v7 w7 ho7 hg7 _
          obtain ⟨A7, c7, rfl, os7⟩ := oss_app HRW.out HXA.out hi9 hw9 (Nat.le_succ _) hown ho7 hg7
          have D := Lib.hid (show DrawnF w g p (.returned (.slice A7 (F ++ [[1 + t]]).length c7)) w7 from ⟨_, A7, c7, _, by have := hlen; rw [List.length_append]; show List.length _ + 1 ≤ 65; omega, short_snoc hsh (by simp), rfl, os7, rd_app hrA hlt hown hg7, by omega, grown_app hgA hown hg7⟩)
          clear os7 ho7 hg7 hown HRW HXA hrA hgA
          go_wp2
          go_ret
          exact D.out
        · have hy0b : (y == 0) = false := by simpa using hy0
          by_cases hy1 : y = 1
          · have hy1b : (y == 1) = true := by simpa using hy1
            clear hy0 hy1
            have hi9 := o8.hi_le
            have hbA : Below w8.heap.size w8 (w8.alloc (.cells #[] 3)) := (Below.refl _ w8).alloc (Nat.le_refl _) _
            have hrA := hr8.below hbA
            have hgA := grown_below hgr8 hbA
            have HXA := Lib.hid (row_new (w := w8) (cs := []) (by simp))
            have hszA : (w8.alloc (.cells #[] 3)).heap.size = w8.heap.size + 1 := World.size_alloc _ _
            have hw9 := hgr8.size
            obtain ⟨rs, hown, hh, hbk, hrw⟩ := o8.below hbA
            have HRW := Lib.hid hrw
            clear hrw hbk hbA o8 hr8 hgr8
            go_wp2_with (at_builtin; refine wpList_append_own _ rfl (.tmp 67) (.tmp 69) 23 rfl w.heap.size 47 i0 (.slice none 0 0) 1 24 Try.underlying23 hi0 hz0 hz1 hz2 rfl (by decide) _ _ _ rfl (hown.alloc _) ⟨w8.heap.size + 1, 0, none⟩ 1 1 [.slice (some ⟨w8.heap.size, 0, none⟩) 0 0] rfl rfl (by rw [← hszA]; exact cell_one_new _ _ _) (slice_oneCell _ _ _) (by unfold maxLen; omega) (by omega) (by simp; omega) ?_)
            intro v7 w7 ho7 hg7 _
            obtain ⟨A7, c7, rfl, os7⟩ := oss_app HRW.out HXA.out hi9 hw9 (Nat.le_succ _) hown ho7 hg7
            have D := Lib.hid (show DrawnF w g p (.returned (.slice A7 (F ++ [[]]).length c7)) w7 from ⟨_, A7, c7, _, by have := hlen; rw [List.length_append]; show List.length _ + 1 ≤ 65; omega, short_snoc hsh (by simp), rfl, os7, rd_app hrA hlt hown hg7, by omega, grown_app hgA hown hg7⟩)
            clear os7 ho7 hg7 hown HRW HXA hrA hgA
            go_wp2
            go_ret
            exact D.out
          · have hy1b : (y == 1) = false := by simpa using hy1
            have D := Lib.hid (show DrawnF w g p (.returned (.slice A4 F.length c4)) w8 from ⟨F, _, _, _, by omega, hsh, rfl, o8.hi o8.hi_le (Nat.le_refl _), hr8, by omega, hgr8⟩)
            clear hy0 hy1 o8 hr8 hgr8
            go_wp2
            go_ret
            exact D.out
    · have hs1b : (s == 1) = false := by simpa using hs1
      clear hs0 hs1 o2
      have hbx : Below w2.heap.size w2 (w2.alloc (.cells #[] 47)) := (Below.refl _ w2).alloc (Nat.le_refl _) _
      have hrx := hr2.below hbx
      have hgx := grown_below hgr2 hbx
      have hx0 : (w2.alloc (.cells #[] 47)).ownsRow w.heap.size 47 1 (.slice (some ⟨w2.heap.size, 0, none⟩) 0 0) 0 [] := World.ownsRow_made w2 #[] 0 hgr2.size (by unfold maxLen; omega) (by simp)
      have ox : OSS (w2.alloc (.cells #[] 47)) w.heap.size (w2.alloc (.cells #[] 47)).heap.size (some ⟨w2.heap.size, 0, none⟩) 0 [] := OSS.of_rows hx0 (Rws.nil _ _ _)
      clear hbx hx0 hr2 hgr2
      go_wp2_with fail
      generalize w2.alloc (.cells #[] 47) = w3 at *
      refine (pickX _ _ 5 _ hrx (by omega) (by omega) (by omega)).mono ?_
      rintro e w4 ⟨x, x0, x1, rfl, hr4, hg4⟩
      obtain ⟨m, rfl⟩ := Int.eq_ofNat_of_zero_le x0
      have H0 := Lib.hid (And.intro (ox.far hg4 hlt) (And.intro hr4 (grown_trans hgx hg4)))
      clear ox hrx hgx hr4 hg4
      go_wp2
      go_loopw [8, 9] (fun v i wr => ∃ (F : List (List Int)) (n q : Nat) (A : Option Addr) (c hi : Nat), i = .int .i64 n ∧ v = .slice A F.length c ∧ n + F.length ≤ 4 ∧ Hid (allV F) ∧ Short F 6 ∧ OSS wr w.heap.size hi A c F ∧ RdX wr g q ∧ q ≤ p + 2 + F.length ∧ w.grownBy wr (some g)) (fun _ i _ => (intOf i).toNat)
      case atStart => exact ⟨[], m, p + 1 + 1, _, _, _, rfl, rfl, by simp; omega, (by show ∀ _ ∈ _, _; simp), (fun l hl => by cases hl), H0.out.1, H0.out.2.1, by simp, H0.out.2.2⟩
      case round =>
        clear H0
        obtain ⟨F, n, q, A, c, hi, rfl, rfl, hnl, hV, hS, ho, hrd, hq, hgr⟩ := hrel
        cases n with
        | succ n =>
          have hn0 : (0 : Int) < ((n + 1 : Nat) : Int) := by omega
          go_wp2_with fail
          refine (pickX _ _ 63 _ hrd (by omega) (by omega) (by omega)).mono ?_
          rintro e w5 ⟨y, y0, y1, rfl, hr5, hg5⟩
          obtain ⟨y, rfl⟩ := Int.eq_ofNat_of_zero_le y0
          have ho5 := ho.far hg5 hlt
          have hgr5 := grown_trans hgr hg5
          have hyw : (1 : Int) + (y : Int) = ((1 + y : Nat) : Int) := by omega
          have hy64 : 1 + y < 64 := by omega
          clear ho hrd hgr hg5
          generalize 1 + y = z at *
          go_wp2_with fail
          refine (l1OfMask_any z _ hy64).mono ?_
          rintro e w6 ⟨A6, c6, rfl, o6, b6⟩
          have hml := mem_len z
          have HVm := Lib.hid (vld_mem hy64)
          have ho6 := ho5.below b6
          have hr6 := hr5.below b6
          have hgr6 := grown_below hgr5 b6
          have hi5 := ho5.hi_le
          have hb6s := b6.size
          have hw5 := hgr5.size
          have HX6 := Lib.hid (show RowAt w6 w5.heap.size w6.heap.size (mem z) (.slice A6 (mem z).length c6) from ⟨_, _, rfl, Own.of_new o6⟩)
          clear ho5 hr5 hgr5 b6 o6
          obtain ⟨rs, hown, hh, hbk, hrw⟩ := ho6
          have HRW := Lib.hid hrw
          clear hrw hbk
          have hw6 := hgr6.size
          go_wp2_with (at_builtin; refine wpList_append_own _ rfl (.tmp 25) (.tmp 27) 23 rfl w.heap.size 47 i0 (.slice none 0 0) 1 24 Try.underlying23 hi0 hz0 hz1 hz2 rfl (by decide) _ _ _ rfl (hown.alloc _) ⟨w6.heap.size, 0, none⟩ 1 1 [.slice A6 (mem z).length c6] rfl rfl (cell_one_new _ _ _) (slice_oneCell _ _ _) (by unfold maxLen; omega) (by omega) (by simp; omega) ?_)
          intro v7 w7 ho7 hg7 _
          obtain ⟨A7, c7, rfl, os7⟩ := oss_app HRW.out HX6.out hi5 hw5 hb6s hown ho7 hg7
          have R := Lib.hid (And.intro os7 (And.intro (rd_app hr6 hlt hown hg7) (And.intro (grown_app hgr6 hown hg7) (And.intro (allV_snoc hV.out HVm.out) (short_snoc hS hml)))))
          have hFl : (F ++ [mem z]).length = F.length + 1 := by simp
          have hn1 : ((n + 1 : Nat) : Int) - 1 = (n : Int) := by omega
          clear os7 ho7 hg7 hown HRW HX6 hr6 hgr6 hV hS
          generalize F ++ [mem z] = F2 at *
          go_wp2
          go_roundw
          case rel => exact ⟨F2, n, q + 1, A7, c7, _, by go_num, rfl, by omega, R.out.2.2.2.1, R.out.2.2.2.2, R.out.1, R.out.2.1, by omega, R.out.2.2.1⟩
          case measure => simp [intOf]
        | zero =>
          have hiss := ho.iss
          have hS2 : Short F 1048576 := fun l hl => Nat.le_trans (hS l hl) (by omega)
          go_wp2_with fail
          refine (l3Min_any _ _ _ _ hiss (by omega) hS2 hV.out).mono ?_
          rintro e w4 ⟨A4, c4, rfl, o4, b4⟩
          have hr4 := hrd.below b4
          have hgr4 := grown_below hgr b4
          have o4f := o4.base hgr.size
          have hlen : (mems (mins (msks F))).length ≤ 64 := by rw [mems_len]; exact mins_len _
          have hsh := mems_short (mins (msks F)) 7 (by omega)
          clear o4 hiss ho hrd hgr b4 hV hS hS2
          generalize mems (mins (msks F)) = F at *
          obtain ⟨hi, o4e⟩ : ∃ hi, OSS w4 w.heap.size hi A4 c4 F := ⟨_, o4f⟩
          obtain ⟨q4, hq4, hr4⟩ : ∃ q, q ≤ p + 40 ∧ RdX w4 g q := ⟨_, by omega, hr4⟩
          clear o4f
          go_wp2_with fail
          refine (pickX _ _ 40 _ hr4 (by omega) (by omega) (by omega)).mono ?_
          rintro e w8 ⟨y, y0, y1, rfl, hr8, hg8⟩
          have o8 := o4e.far hg8 hlt
          have hgr8 := grown_trans hgr4 hg8
          clear o4e hr4 hgr4 hg8
          by_cases hy0 : y = 0
          · have hy0b : (y == 0) = true := by simpa using hy0
            clear hy0
            go_wp2_with fail
            refine (pickX _ _ 6 _ hr8 (by omega) (by omega) (by omega)).mono ?_
            rintro e w9 ⟨t, t0, t1, rfl, hr9, hg9⟩
            have o9 := o8.far hg9 hlt
            have hgr9 := grown_trans hgr8 hg9
            have hi9 := o9.hi_le
            have ht1 : IntKind.i64.wrap (1 + t) = 1 + t := by rw [IntKind.wrap_i64]; omega
            have hbA : Below w9.heap.size w9 (w9.alloc (.cells #[.int .i64 (1 + t)] 3)) := (Below.refl _ w9).alloc (Nat.le_refl _) _
            have hrA := hr9.below hbA
            have hgA := grown_below hgr9 hbA
            have HXA := Lib.hid (row_new (w := w9) (cs := [1 + t]) (by simp))
            have hszA : (w9.alloc (.cells #[.int .i64 (1 + t)] 3)).heap.size = w9.heap.size + 1 := World.size_alloc _ _
            have hw9 := hgr9.size
            obtain ⟨rs, hown, hh, hbk, hrw⟩ := o9.below hbA
            have HRW := Lib.hid hrw
            clear hrw hbk hbA o8 o9 hr8 hgr8 hr9 hgr9 hg9
            go_wp2_with (at_builtin; refine wpList_append_own _ rfl (.tmp 58) (.tmp 63) 23 rfl w.heap.size 47 i0 (.slice none 0 0) 1 24 Try.underlying23 hi0 hz0 hz1 hz2 rfl (by decide) _ _ _ rfl (hown.alloc _) ⟨w9.heap.size + 1, 0, none⟩ 1 1 [.slice (some ⟨w9.heap.size, 0, none⟩) 1 1] rfl rfl (by rw [← hszA]; exact cell_one_new _ _ _) (slice_oneCell _ _ _) (by unfold maxLen; omega) (by omega) (by simp; omega) ?_)
            intro v7 w7 ho7 hg7 _
            obtain ⟨A7, c7, rfl, os7⟩ := oss_app HRW.out HXA.out hi9 hw9 (Nat.le_succ _) hown ho7 hg7
            have D := Lib.hid (show DrawnF w g p (.returned (.slice A7 (F ++ [[1 + t]]).length c7)) w7 from ⟨_, A7, c7, _, by have := hlen; rw [List.length_append]; show List.length _ + 1 ≤ 65; omega, short_snoc hsh (by simp), rfl, os7, rd_app hrA hlt hown hg7, by omega, grown_app hgA hown hg7⟩)
            clear os7 ho7 hg7 hown HRW HXA hrA hgA
            go_wp2
            go_ret
            exact D.out
          · have hy0b : (y == 0) = false := by simpa using hy0
            by_cases hy1 : y = 1
            · have hy1b : (y == 1) = true := by simpa using hy1
              clear hy0 hy1
              have hi9 := o8.hi_le
              have hbA : Below w8.heap.size w8 (w8.alloc (.cells #[] 3)) := (Below.refl _ w8).alloc (Nat.le_refl _) _
              have hrA := hr8.below hbA
              have hgA := grown_below hgr8 hbA
              have HXA := Lib.hid (row_new (w := w8) (cs := []) (by simp))
              have hszA : (w8.alloc (.cells #[] 3)).heap.size = w8.heap.size + 1 := World.size_alloc _ _
              have hw9 := hgr8.size
              obtain ⟨rs, hown, hh, hbk, hrw⟩ := o8.below hbA
              have HRW := Lib.hid hrw
              clear hrw hbk hbA o8 hr8 hgr8
              go_wp2_with (at_builtin; refine wpList_append_own _ rfl (.tmp 67) (.tmp 69) 23 rfl w.heap.size 47 i0 (.slice none 0 0) 1 24 Try.underlying23 hi0 hz0 hz1 hz2 rfl (by decide) _ _ _ rfl (hown.alloc _) ⟨w8.heap.size + 1, 0, none⟩ 1 1 [.slice (some ⟨w8.heap.size, 0, none⟩) 0 0] rfl rfl (by rw [← hszA]; exact cell_one_new _ _ _) (slice_oneCell _ _ _) (by unfold maxLen; omega) (by omega) (by simp; omega) ?_)
              intro v7 w7 ho7 hg7 _
              obtain ⟨A7, c7, rfl, os7⟩ := oss_app HRW.out HXA.out hi9 hw9 (Nat.le_succ _) hown ho7 hg7
              have D := Lib.hid (show DrawnF w g p (.returned (.slice A7 (F ++ [[]]).length c7)) w7 from ⟨_, A7, c7, _, by have := hlen; rw [List.length_append]; show List.length _ + 1 ≤ 65; omega, short_snoc hsh (by simp), rfl, os7, rd_app hrA hlt hown hg7, by omega, grown_app hgA hown hg7⟩)
              clear os7 ho7 hg7 hown HRW HXA hrA hgA
              go_wp2
              go_ret
              exact D.out
            · have hy1b : (y == 1) = false := by simpa using hy1
              have D := Lib.hid (show DrawnF w g p (.returned (.slice A4 F.length c4)) w8 from ⟨F, _, _, _, by omega, hsh, rfl, o8.hi o8.hi_le (Nat.le_refl _), hr8, by omega, hgr8⟩)
              clear hy0 hy1 o8 hr8 hgr8
              go_wp2
              go_ret
              exact D.out

end Go.Proofs.Ytnfaihgnggmpkaa
