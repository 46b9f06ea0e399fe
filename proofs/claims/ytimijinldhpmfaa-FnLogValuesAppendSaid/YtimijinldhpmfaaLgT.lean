/- Logs: the model's LogOpen and LogValues, by their contracts. -/
import Derived.Test.YtimijinldhpmfaaLgS
namespace Go.Proofs.Ytimijinldhpmfaa
open Go.RowKit

set_option maxRecDepth 100000 in
set_option maxHeartbeats 1600000 in
theorem sLogOpen_any (A : Option Addr) (c : Nat) (l : List En) (n : Int) (w : World) (ha : EnL w A l) (hl : l.length ≤ 1048577) :
    Calls Try.prog 25 #[.slice A l.length c, .int .i64 n] w (New w (lopen l n)) := by
  obtain ⟨i0, hi0, hz0, hz1, hz2⟩ := info_parts int_info
  obtain ⟨m, hr⟩ : ∃ r, r = lopen l n := ⟨_, rfl⟩
  have HR := Lib.hid hr
  rw [← hr]
  clear hr
  have B0 := (Below.refl _ w).alloc (Nat.le_refl _) (.cells #[] 3)
  have HA0 := Lib.hid ha
  have H0 := Lib.hid (ha.below B0)
  have o0 : (w.alloc (.cells #[] 3)).ownsRow w.heap.size 3 1 (.slice (some ⟨w.heap.size, 0, none⟩) 0 0) 0 [] := World.ownsRow_made w #[] 0 (Nat.le_refl _) (by unfold maxLen; omega) (by simp)
  have O0 := Lib.hid (And.intro o0 B0)
  clear ha o0 B0
  go_enter Try.func25, Try.ntmps25
  go_wp2_with fail
  refine (sLogValid_any _ _ _ _ _ H0.out hl).mono ?_
  rintro e w1 ⟨rfl, b1⟩
  have o1 := Lib.hid (And.intro (row_below O0.out.1 b1) (And.intro (below_step O0.out.2 b1) (H0.out.below b1)))
  clear b1 O0 H0
  by_cases hok : okL l n = true
  · have HL := (okL_parts hok).2.2
    have HO := Lib.hid hok
    rw [hok]
    obtain rfl : m = upC l 2 := HR.out.trans (lopen_yes hok)
    clear hok HR
    go_wp2
    go_loopw [5, 6] (fun v i wr => ∃ j : Nat, j ≤ 2 ∧ i = .int .i64 j ∧ wr.ownsRow w.heap.size 3 1 v (upC l j).length ((upC l j).map (Value.int .i64)) ∧ Below w.heap.size w wr) (fun _ i _ => 2 - (intOf i).toNat)
    case atStart => exact ⟨0, by omega, by simp, o1.out.1, o1.out.2.1⟩
    case round =>
      clear o1
      obtain ⟨j, hj, rfl, hown, hbel⟩ := hrel
      by_cases hlt : j < 2
      · have e1 : decide ((j : Int) < 2) = true := by simp; omega
        go_wp2_with fail
        refine (sConf_any _ _ _ _ _ (HA0.out.below hbel) hl).mono ?_
        rintro e w3 ⟨rfl, rfl⟩
        have K := conf_small (s := (l.length : Int) + (j : Int)) HO.out
        have hup : (upC l j).length ≤ 2 := by rw [upC_len]; exact hj
        have EN := Lib.hid (upC_next l j)
        generalize conf l ((l.length : Int) + (j : Int)) = y at *
        generalize upC l j = u at *
        go_wp2_with (at_builtin; refine wpList_append_own _ rfl (.tmp 17) (.tmp 24) 35 rfl w.heap.size 3 i0 (.int .i64 0) 1 8 Try.underlying35 hi0 hz0 hz1 hz2 rfl (by decide) _ _ _ rfl (hown.alloc _) ⟨wr.heap.size, 0, none⟩ 1 1 [.int .i64 y] rfl rfl (cell_one_new _ _ _) (ints_oneCell .i64 [y]) (by unfold maxLen; omega) (by omega) (by have := hbel.size; simp; omega) ?_)
        intro v' w4 hown' hgrow _
        have R := app_one hown hbel hown' hgrow
        rw [← EN.out] at R
        have HR := Lib.hid R
        clear R hown hbel hown' hgrow e1 EN
        go_wp2
        go_roundw
        case rel => exact ⟨j + 1, by omega, by go_num, HR.out.1, HR.out.2⟩
        case measure => simp [intOf]; omega
      · have hj2 : j = 2 := by omega
        subst hj2
        have HN := Lib.hid (New.mk hown hbel)
        clear hown hbel
        go_wp2
        go_ret
        exact HN.out
  · rw [Bool.not_eq_true] at hok
    obtain rfl : m = [] := HR.out.trans (by rw [lopen, if_neg]; rw [hok]; simp)
    rw [hok]
    have HN := Lib.hid (New.mk (l := []) o1.out.1 o1.out.2.1)
    clear hok
    go_wp2
    go_ret
    exact HN.out
set_option maxRecDepth 100000 in
set_option maxHeartbeats 1600000 in
theorem sLogValues_any (A : Option Addr) (c : Nat) (l : List En) (n : Int) (w : World) (ha : EnL w A l) (hl : l.length ≤ 1048577) :
    Calls Try.prog 33 #[.slice A l.length c, .int .i64 n] w (New w (lvals l n)) := by
  obtain ⟨i0, hi0, hz0, hz1, hz2⟩ := info_parts int_info
  obtain ⟨m, hr⟩ : ∃ r, r = lvals l n := ⟨_, rfl⟩
  have HR := Lib.hid hr
  rw [← hr]
  clear hr
  have B0 := (Below.refl _ w).alloc (Nat.le_refl _) (.cells #[] 3)
  have HA0 := Lib.hid ha
  have H0 := Lib.hid (ha.below B0)
  have o0 : (w.alloc (.cells #[] 3)).ownsRow w.heap.size 3 1 (.slice (some ⟨w.heap.size, 0, none⟩) 0 0) 0 [] := World.ownsRow_made w #[] 0 (Nat.le_refl _) (by unfold maxLen; omega) (by simp)
  have O0 := Lib.hid (And.intro o0 B0)
  clear ha o0 B0
  go_enter Try.func33, Try.ntmps33
  go_wp2_with fail
  refine (sLogValid_any _ _ _ _ _ H0.out hl).mono ?_
  rintro e w1 ⟨rfl, b1⟩
  have o1 := Lib.hid (And.intro (row_below O0.out.1 b1) (below_step O0.out.2 b1))
  clear b1 O0 H0
  by_cases hok : okL l n = true
  · have HL := (okL_parts hok).2.2
    rw [hok]
    obtain rfl : m = vals l := HR.out.trans (lvals_yes hok)
    clear hok HR
    go_wp2
    go_loopw [5, 6] (fun v i wr => ∃ j : Nat, j ≤ l.length ∧ i = .int .i64 j ∧ wr.ownsRow w.heap.size 3 1 v (vals (l.take j)).length ((vals (l.take j)).map (Value.int .i64)) ∧ Below w.heap.size w wr) (fun _ i _ => l.length - (intOf i).toNat)
    case atStart => exact ⟨0, by omega, by simp, o1.out.1, o1.out.2⟩
    case round =>
      clear o1
      obtain ⟨j, hj, rfl, hown, hbel⟩ := hrel
      by_cases hlt : j < l.length
      · obtain ⟨b, off, x, rfl, hx, c0, c1⟩ := (HA0.out.below hbel).at_ hlt
        have EN := Lib.hid (vals_take hx)
        have hki : (0 : Int) ≤ (j : Int) := by omega
        have hki2 : (j : Int) < (l.length : Int) := by omega
        obtain ⟨x0, x1⟩ := x
        simp only at c0 c1
        have hup : (vals (l.take j)).length ≤ 12 := Nat.le_trans (vals_len _) (by simp; omega)
        clear hx
        by_cases h0 : x1 = 0
        · subst h0
          have EN2 := Lib.hid (EN.out.trans (if_pos rfl))
          clear EN
          generalize vals (l.take j) = u at *
          go_wp2_with (at_builtin; refine wpList_append_own _ rfl (.tmp 25) (.tmp 31) 35 rfl w.heap.size 3 i0 (.int .i64 0) 1 8 Try.underlying35 hi0 hz0 hz1 hz2 rfl (by decide) _ _ _ rfl (hown.alloc _) ⟨wr.heap.size, 0, none⟩ 1 1 [.int .i64 x0] rfl rfl (cell_one_new _ _ _) (ints_oneCell .i64 [x0]) (by unfold maxLen; omega) (by omega) (by have := hbel.size; simp; omega) ?_)
          intro v' w4 hown' hgrow _
          have R := app_one hown hbel hown' hgrow
          have R2 := Lib.hid (show w4.ownsRow w.heap.size 3 1 v' (vals (l.take (j + 1))).length ((vals (l.take (j + 1))).map (Value.int .i64)) ∧ Below w.heap.size w w4 by rw [EN2.out]; exact R)
          clear R hown hbel hown' hgrow EN2 c0 c1
          go_wp2
          go_roundw
          case rel => exact ⟨j + 1, by omega, by go_num, R2.out.1, R2.out.2⟩
          case measure => simp [intOf]; omega
        · have e1 : (x1 == 0) = false := by simpa using h0
          have EN2 := Lib.hid (EN.out.trans (if_neg h0))
          have R2 := Lib.hid (show wr.ownsRow w.heap.size 3 1 _ (vals (l.take (j + 1))).length ((vals (l.take (j + 1))).map (Value.int .i64)) ∧ Below w.heap.size w wr by rw [EN2.out]; exact ⟨hown, hbel⟩)
          clear EN EN2 hown hbel h0
          go_wp2
          go_roundw
          case rel => exact ⟨j + 1, by omega, by go_num, R2.out.1, R2.out.2⟩
          case measure => simp [intOf]; omega
      · have hj2 : j = l.length := by omega
        subst hj2
        rw [List.take_length] at hown
        have HN := Lib.hid (New.mk hown hbel)
        clear hown hbel
        go_wp2
        go_ret
        exact HN.out
  · rw [Bool.not_eq_true] at hok
    obtain rfl : m = [] := HR.out.trans (by rw [lvals, if_neg]; rw [hok]; simp)
    rw [hok]
    have HN := Lib.hid (New.mk (l := []) o1.out.1 o1.out.2)
    clear hok
    go_wp2
    go_ret
    exact HN.out
end Go.Proofs.Ytimijinldhpmfaa
