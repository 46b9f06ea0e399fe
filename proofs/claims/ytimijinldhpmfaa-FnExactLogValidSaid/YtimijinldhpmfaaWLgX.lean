/- The exact walks of chapter 31. -/
import Derived.Test.YtimijinldhpmfaaLgT
namespace Go.Proofs.Ytimijinldhpmfaa
open Go.RowKit

theorem Own.keep' {w w' : World} {lo hi lo2 hi2 c : Nat} {A : Option Addr} {l : List Int} (h : Own w lo hi A c l) (k : Keep lo2 hi2 w w') (hd : hi ≤ lo2 ∨ hi2 ≤ lo) : Own w' lo hi A c l :=
  h.at_ (Nat.le_trans h.2.1 k.size) fun g h1 h2 _ => k.block g (by have := h.2.1; omega) (by omega)
theorem lopen_len {l : List En} {n : Int} : (lopen l n).length ≤ 12 := by unfold lopen; split <;> simp
theorem lapp_len (l : List En) (n : Int) (x : En) : (lapp l n x).1.length ≤ l.length + 1 := by
  unfold lapp
  split
  · split <;> simp
  · simp
theorem lvals_len {l : List En} {n : Int} : (lvals l n).length ≤ 12 := by
  unfold lvals
  split
  · next h => exact Nat.le_trans (vals_len l) (okL_parts h).2.2
  · simp


set_option maxRecDepth 100000 in
set_option maxHeartbeats 3200000 in
theorem walkLogValid (A : Option Addr) (c : Nat) (l : List En) (n : Int) (w : World) (ha : EnL w A l) (hm : l.length ≤ maxLen) :
    Calls Try.prog 13 #[.slice A l.length c, .int .i64 n] w fun e w' => e = .returned (.bool true) ∧ Below w.heap.size w w' := by
  by_cases hl : l.length ≤ 1048576
  · have hl1 : l.length ≤ 1048577 := Nat.le_trans hl (by decide)
    obtain ⟨r, hr⟩ : ∃ r, r = okL l n := ⟨_, rfl⟩
    have HR := Lib.hid hr
    clear hr
    have HL := Lib.hid hl1
    go_enter Try.func13, Try.ntmps13
    go_wp2_with fail
    refine (szEn_any _ _ _ _ hm).mono ?_
    rintro e w1 ⟨z, rfl, hz, rfl⟩
    have z0 := hz.2 hl
    clear hz hm
    go_wp2_with fail
    refine (toEnS_own _ _ _ _ ha hl).mono ?_
    rintro e w2 ⟨g2, rfl, o2, b2⟩
    go_wp2_with fail
    refine (sLogValid_any _ _ _ n _ o2.rd hl1).mono ?_
    rintro e w3 ⟨rfl, b3⟩
    rw [← HR.out]
    have B3 := below_step b2 b3
    clear o2 b2 b3
    go_wp2_with fail
    refine (toEnS_own _ _ _ _ (ha.below B3) hl).mono ?_
    rintro e w4 ⟨g4, rfl, o4, b4⟩
    have B4 := below_step B3 b4
    clear B3 b4
    go_wp2_with fail
    refine (iLogValid_any _ _ _ n _ o4.rd hl1).mono ?_
    rintro e w5 ⟨rfl, b5⟩
    rw [← HR.out]
    have o4 := o4.below b5
    have B5 := below_step B4 b5
    clear B4 b5
    go_wp2_with fail
    refine (toEnS_own _ _ _ _ (ha.below B5) hl).mono ?_
    rintro e w6 ⟨g6, rfl, o6, b6⟩
    have o4 := o4.below b6
    have B6 := below_step B5 b6
    clear B5 b6
    go_wp2_with fail
    refine (eqEnS_yes _ _ _ _ _ _ o4.rd o6.rd hl1).mono ?_
    rintro e w7 ⟨rfl, b7⟩
    have B7 := below_step B6 b7
    clear B6 b7 o4 o6 ha
    go_wp2
    go_ret
    exact ⟨rfl, B7⟩
  · have H0 := Lib.hid ha
    clear ha
    go_enter Try.func13, Try.ntmps13
    go_wp2_with fail
    refine (szEn_any _ _ _ _ hm).mono ?_
    rintro e w1 ⟨z, rfl, hz, rfl⟩
    have z0 : z < 0 := by
      rcases Int.lt_or_le z 0 with h | h
      · exact h
      · exact absurd (hz.1 h) hl
    clear hz hm
    go_wp2
    go_ret
    exact ⟨rfl, Below.refl _ _⟩


set_option maxRecDepth 100000 in
set_option maxHeartbeats 3200000 in
theorem walkLogConfig (A : Option Addr) (c : Nat) (l : List En) (n s : Int) (w : World) (ha : EnL w A l) (hm : l.length ≤ maxLen) :
    Calls Try.prog 14 #[.slice A l.length c, .int .i64 n, .int .i64 s] w fun e w' => e = .returned (.bool true) ∧ Below w.heap.size w w' := by
  by_cases hl : l.length ≤ 1048576
  · have hl1 : l.length ≤ 1048577 := Nat.le_trans hl (by decide)
    obtain ⟨r, hr⟩ : ∃ r, r = lconf l n s := ⟨_, rfl⟩
    have HR := Lib.hid hr
    clear hr
    have HL := Lib.hid hl1
    go_enter Try.func14, Try.ntmps14
    go_wp2_with fail
    refine (szEn_any _ _ _ _ hm).mono ?_
    rintro e w1 ⟨z, rfl, hz, rfl⟩
    have z0 := hz.2 hl
    clear hz hm
    go_wp2_with fail
    refine (toEnS_own _ _ _ _ ha hl).mono ?_
    rintro e w2 ⟨g2, rfl, o2, b2⟩
    go_wp2_with fail
    refine (sLogConfig_any _ _ _ n s _ o2.rd hl1).mono ?_
    rintro e w3 ⟨rfl, b3⟩
    rw [← HR.out]
    have B3 := below_step b2 b3
    clear o2 b2 b3
    go_wp2_with fail
    refine (toEnS_own _ _ _ _ (ha.below B3) hl).mono ?_
    rintro e w4 ⟨g4, rfl, o4, b4⟩
    have B4 := below_step B3 b4
    clear B3 b4
    go_wp2_with fail
    refine (iLogConfig_any _ _ _ n s _ o4.rd hl1).mono ?_
    rintro e w5 ⟨rfl, b5⟩
    rw [← HR.out]
    have o4 := o4.below b5
    have B5 := below_step B4 b5
    clear B4 b5
    go_wp2_with fail
    refine (toEnS_own _ _ _ _ (ha.below B5) hl).mono ?_
    rintro e w6 ⟨g6, rfl, o6, b6⟩
    have o4 := o4.below b6
    have B6 := below_step B5 b6
    clear B5 b6
    go_wp2_with fail
    refine (eqEnS_yes _ _ _ _ _ _ o4.rd o6.rd hl1).mono ?_
    rintro e w7 ⟨rfl, b7⟩
    have B7 := below_step B6 b7
    clear B6 b7 o4 o6 ha
    go_wp2
    go_ret
    exact ⟨rfl, B7⟩
  · have H0 := Lib.hid ha
    clear ha
    go_enter Try.func14, Try.ntmps14
    go_wp2_with fail
    refine (szEn_any _ _ _ _ hm).mono ?_
    rintro e w1 ⟨z, rfl, hz, rfl⟩
    have z0 : z < 0 := by
      rcases Int.lt_or_le z 0 with h | h
      · exact h
      · exact absurd (hz.1 h) hl
    clear hz hm
    go_wp2
    go_ret
    exact ⟨rfl, Below.refl _ _⟩


set_option maxRecDepth 100000 in
set_option maxHeartbeats 3200000 in
theorem walkLogOpen (A : Option Addr) (c : Nat) (l : List En) (n : Int) (w : World) (ha : EnL w A l) (hm : l.length ≤ maxLen) :
    Calls Try.prog 16 #[.slice A l.length c, .int .i64 n] w fun e w' => e = .returned (.bool true) ∧ Below w.heap.size w w' := by
  by_cases hl : l.length ≤ 1048576
  · have hl1 : l.length ≤ 1048577 := Nat.le_trans hl (by decide)
    obtain ⟨r, hr⟩ : ∃ r, r = lopen l n := ⟨_, rfl⟩
    have hrl : r.length ≤ 12 := by rw [hr]; exact lopen_len
    have HR := Lib.hid hr
    clear hr
    have HL := Lib.hid hl1
    go_enter Try.func16, Try.ntmps16
    go_wp2_with fail
    refine (szEn_any _ _ _ _ hm).mono ?_
    rintro e w1 ⟨z, rfl, hz, rfl⟩
    have z0 := hz.2 hl
    clear hz hm
    go_wp2_with fail
    refine (toEnS_own _ _ _ _ ha hl).mono ?_
    rintro e w2 ⟨g2, rfl, o2, b2⟩
    go_wp2_with fail
    refine (sLogOpen_any _ _ _ n _ o2.rd hl1).mono ?_
    rintro e w3 ⟨AW, cW, rfl, oW, b3⟩
    rw [← HR.out] at oW ⊢
    have OW := Own.of_new oW
    have B3 := below_step b2 b3
    have s2 := b2.size
    have s3 := b3.size
    clear o2 b2 b3 oW
    go_wp2_with fail
    refine (toEnS_own _ _ _ _ (ha.below B3) hl).mono ?_
    rintro e w4 ⟨g4, rfl, OX, b4⟩
    have OW := OW.below b4
    have B4 := below_step B3 b4
    have s4 := b4.size
    clear B3 b4
    go_wp2_with fail
    refine (iLogOpen_any _ _ _ n _ OX.rd hl1).mono ?_
    rintro e w5 ⟨AG, cG, rfl, oG, b5⟩
    rw [← HR.out] at oG ⊢
    have OG := Own.of_new oG
    have OX := OX.below b5
    have OW := OW.below b5
    have B5 := below_step B4 b5
    have s5 := b5.size
    clear B4 b5 oG
    go_wp2_with fail
    refine (eqIntS_yes _ _ _ _ _ _ OG.il OW.il (by omega)).mono ?_
    rintro e w6 ⟨rfl, b6⟩
    have OX := OX.below b6
    have OW := OW.below b6
    have OG := OG.below b6
    have B6 := below_step B5 b6
    clear B5 b6
    go_wp2_with fail
    refine (toEnS_own _ _ _ _ (ha.below B6) hl).mono ?_
    rintro e w7 ⟨g7, rfl, o7, b7⟩
    have OX := OX.below b7
    have OW := OW.below b7
    have OG := OG.below b7
    have B7 := below_step B6 b7
    clear B6 b7
    go_wp2_with fail
    refine (eqEnS_yes _ _ _ _ _ _ OX.rd o7.rd hl1).mono ?_
    rintro e w8 ⟨rfl, b8⟩
    have OX := OX.below b8
    have OW := OW.below b8
    have OG := OG.below b8
    have B8 := below_step B7 b8
    clear B7 b8 o7
    go_wp2_with fail
    refine (markEnS_own _ _ _ _ _ 1 _ (by omega) _ OX hl1 (by omega)).mono ?_
    rintro e w9 ⟨rfl, o9, k9⟩
    have OW := OW.keep' k9 (by omega)
    have OG := OG.keep' k9 (by omega)
    have B9 := below_keep B8 k9 (by omega)
    clear B8 o9 k9 OX
    go_wp2_with fail
    refine (eqIntS_yes _ _ _ _ _ _ OG.il OW.il (by omega)).mono ?_
    rintro e w10 ⟨rfl, b10⟩
    have OW := OW.below b10
    have OG := OG.below b10
    have B10 := below_step B9 b10
    clear B9 b10
    go_wp2_with fail
    refine (mark_own _ _ _ 1 _ (by omega) _ OG (by omega) (by omega)).mono ?_
    rintro e w11 ⟨rfl, OG2, g11⟩
    have OW := OW.other OG g11 (by omega)
    have B11 := OG.keeps B10 (by omega) g11
    clear g11 B10 OG
    go_wp2_with fail
    refine (held_own _ _ 1 _ _ (by omega) _ OG2.il (by omega) (by omega)).mono ?_
    rintro e w' ⟨rfl, rfl⟩
    go_wp2_with fail
    refine (toEnS_own _ _ _ _ (ha.below B11) hl).mono ?_
    rintro e w12 ⟨g12, rfl, o12, b12⟩
    have OW := OW.below b12
    have OG2 := OG2.below b12
    have B12 := below_step B11 b12
    clear B11 b12
    go_wp2_with fail
    refine (iLogOpen_any _ _ _ n _ o12.rd hl1).mono ?_
    rintro e w13 ⟨AH, cH, rfl, oH, b13⟩
    rw [← HR.out] at oH ⊢
    have OW := OW.below b13
    have OG2 := OG2.below b13
    have B13 := below_step B12 b13
    clear B12 b13 o12
    go_wp2_with fail
    refine (eqIntS_yes _ _ _ _ _ _ (IL.of_own oH).1 OW.il (by omega)).mono ?_
    rintro e w14 ⟨rfl, b14⟩
    have OG2 := OG2.below b14
    have B14 := below_step B13 b14
    clear B13 b14 oH OW
    go_wp2_with fail
    refine (held_own _ _ 1 _ _ (by omega) _ OG2.il (by omega) (by omega)).mono ?_
    rintro e w' ⟨rfl, rfl⟩
    clear OG2 ha
    go_wp2
    go_ret
    exact ⟨rfl, B14⟩
  · have H0 := Lib.hid ha
    clear ha
    go_enter Try.func16, Try.ntmps16
    go_wp2_with fail
    refine (szEn_any _ _ _ _ hm).mono ?_
    rintro e w1 ⟨z, rfl, hz, rfl⟩
    have z0 : z < 0 := by
      rcases Int.lt_or_le z 0 with h | h
      · exact h
      · exact absurd (hz.1 h) hl
    clear hz hm
    go_wp2
    go_ret
    exact ⟨rfl, Below.refl _ _⟩


set_option maxRecDepth 100000 in
set_option maxHeartbeats 3200000 in
theorem walkLogValues (A : Option Addr) (c : Nat) (l : List En) (n : Int) (w : World) (ha : EnL w A l) (hm : l.length ≤ maxLen) :
    Calls Try.prog 17 #[.slice A l.length c, .int .i64 n] w fun e w' => e = .returned (.bool true) ∧ Below w.heap.size w w' := by
  by_cases hl : l.length ≤ 1048576
  · have hl1 : l.length ≤ 1048577 := Nat.le_trans hl (by decide)
    obtain ⟨r, hr⟩ : ∃ r, r = lvals l n := ⟨_, rfl⟩
    have hrl : r.length ≤ 12 := by rw [hr]; exact lvals_len
    have HR := Lib.hid hr
    clear hr
    have HL := Lib.hid hl1
    go_enter Try.func17, Try.ntmps17
    go_wp2_with fail
    refine (szEn_any _ _ _ _ hm).mono ?_
    rintro e w1 ⟨z, rfl, hz, rfl⟩
    have z0 := hz.2 hl
    clear hz hm
    go_wp2_with fail
    refine (toEnS_own _ _ _ _ ha hl).mono ?_
    rintro e w2 ⟨g2, rfl, o2, b2⟩
    go_wp2_with fail
    refine (sLogValues_any _ _ _ n _ o2.rd hl1).mono ?_
    rintro e w3 ⟨AW, cW, rfl, oW, b3⟩
    rw [← HR.out] at oW ⊢
    have OW := Own.of_new oW
    have B3 := below_step b2 b3
    have s2 := b2.size
    have s3 := b3.size
    clear o2 b2 b3 oW
    go_wp2_with fail
    refine (toEnS_own _ _ _ _ (ha.below B3) hl).mono ?_
    rintro e w4 ⟨g4, rfl, OX, b4⟩
    have OW := OW.below b4
    have B4 := below_step B3 b4
    have s4 := b4.size
    clear B3 b4
    go_wp2_with fail
    refine (iLogValues_any _ _ _ n _ OX.rd hl1).mono ?_
    rintro e w5 ⟨AG, cG, rfl, oG, b5⟩
    rw [← HR.out] at oG ⊢
    have OG := Own.of_new oG
    have OX := OX.below b5
    have OW := OW.below b5
    have B5 := below_step B4 b5
    have s5 := b5.size
    clear B4 b5 oG
    go_wp2_with fail
    refine (eqIntS_yes _ _ _ _ _ _ OG.il OW.il (by omega)).mono ?_
    rintro e w6 ⟨rfl, b6⟩
    have OX := OX.below b6
    have OW := OW.below b6
    have OG := OG.below b6
    have B6 := below_step B5 b6
    clear B5 b6
    go_wp2_with fail
    refine (toEnS_own _ _ _ _ (ha.below B6) hl).mono ?_
    rintro e w7 ⟨g7, rfl, o7, b7⟩
    have OX := OX.below b7
    have OW := OW.below b7
    have OG := OG.below b7
    have B7 := below_step B6 b7
    clear B6 b7
    go_wp2_with fail
    refine (eqEnS_yes _ _ _ _ _ _ OX.rd o7.rd hl1).mono ?_
    rintro e w8 ⟨rfl, b8⟩
    have OX := OX.below b8
    have OW := OW.below b8
    have OG := OG.below b8
    have B8 := below_step B7 b8
    clear B7 b8 o7
    go_wp2_with fail
    refine (markEnS_own _ _ _ _ _ 1 _ (by omega) _ OX hl1 (by omega)).mono ?_
    rintro e w9 ⟨rfl, o9, k9⟩
    have OW := OW.keep' k9 (by omega)
    have OG := OG.keep' k9 (by omega)
    have B9 := below_keep B8 k9 (by omega)
    clear B8 o9 k9 OX
    go_wp2_with fail
    refine (eqIntS_yes _ _ _ _ _ _ OG.il OW.il (by omega)).mono ?_
    rintro e w10 ⟨rfl, b10⟩
    have OW := OW.below b10
    have OG := OG.below b10
    have B10 := below_step B9 b10
    clear B9 b10
    go_wp2_with fail
    refine (mark_own _ _ _ 1 _ (by omega) _ OG (by omega) (by omega)).mono ?_
    rintro e w11 ⟨rfl, OG2, g11⟩
    have OW := OW.other OG g11 (by omega)
    have B11 := OG.keeps B10 (by omega) g11
    clear g11 B10 OG
    go_wp2_with fail
    refine (held_own _ _ 1 _ _ (by omega) _ OG2.il (by omega) (by omega)).mono ?_
    rintro e w' ⟨rfl, rfl⟩
    go_wp2_with fail
    refine (toEnS_own _ _ _ _ (ha.below B11) hl).mono ?_
    rintro e w12 ⟨g12, rfl, o12, b12⟩
    have OW := OW.below b12
    have OG2 := OG2.below b12
    have B12 := below_step B11 b12
    clear B11 b12
    go_wp2_with fail
    refine (iLogValues_any _ _ _ n _ o12.rd hl1).mono ?_
    rintro e w13 ⟨AH, cH, rfl, oH, b13⟩
    rw [← HR.out] at oH ⊢
    have OW := OW.below b13
    have OG2 := OG2.below b13
    have B13 := below_step B12 b13
    clear B12 b13 o12
    go_wp2_with fail
    refine (eqIntS_yes _ _ _ _ _ _ (IL.of_own oH).1 OW.il (by omega)).mono ?_
    rintro e w14 ⟨rfl, b14⟩
    have OG2 := OG2.below b14
    have B14 := below_step B13 b14
    clear B13 b14 oH OW
    go_wp2_with fail
    refine (held_own _ _ 1 _ _ (by omega) _ OG2.il (by omega) (by omega)).mono ?_
    rintro e w' ⟨rfl, rfl⟩
    clear OG2 ha
    go_wp2
    go_ret
    exact ⟨rfl, B14⟩
  · have H0 := Lib.hid ha
    clear ha
    go_enter Try.func17, Try.ntmps17
    go_wp2_with fail
    refine (szEn_any _ _ _ _ hm).mono ?_
    rintro e w1 ⟨z, rfl, hz, rfl⟩
    have z0 : z < 0 := by
      rcases Int.lt_or_le z 0 with h | h
      · exact h
      · exact absurd (hz.1 h) hl
    clear hz hm
    go_wp2
    go_ret
    exact ⟨rfl, Below.refl _ _⟩


set_option maxRecDepth 100000 in
set_option maxHeartbeats 3200000 in
theorem walkLogAppend (A : Option Addr) (c : Nat) (l : List En) (n : Int) (x : En) (w : World) (ha : EnL w A l) (hm : l.length ≤ maxLen) :
    Calls Try.prog 15 #[.slice A l.length c, .int .i64 n, .agg #[.int .i64 x.1, .int .i64 x.2]] w fun e w' => e = .returned (.bool true) ∧ Below w.heap.size w w' := by
  by_cases hl : l.length ≤ 1048576
  · have hl1 : l.length ≤ 1048577 := Nat.le_trans hl (by decide)
    obtain ⟨⟨r, t⟩, hr⟩ : ∃ r, r = lapp l n x := ⟨_, rfl⟩
    have hrl : r.length ≤ 1048577 := by have := lapp_len l n x; rw [← hr] at this; simpa using Nat.le_trans this (by omega)
    have HR := Lib.hid hr
    clear hr
    obtain ⟨x0, x1⟩ := x
    have B0 := (Below.refl _ w).alloc (Nat.le_refl _) (.cells #[.int .i64 x0, .int .i64 x1] 47)
    have N := Lib.hid (AFEn.new w (x0, x1) 47)
    obtain ⟨c0, c1⟩ := N.out.c
    simp only at c0 c1
    have HA := Lib.hid ha
    clear ha
    have hm' := hm
    have HL := Lib.hid hl1
    go_enter Try.func15, Try.ntmps15
    go_wp2_with fail
    refine (szEn_any _ _ _ _ hm').mono ?_
    rintro e w1 ⟨z, rfl, hz, rfl⟩
    have z0 := hz.2 hl
    clear hz hm hm'
    have z1 : decide (z < 0) = false := by simp; omega
    have ND := Lib.hid (show AFEn (w.alloc (.cells #[.int .i64 x0, .int .i64 x1] 47)).drew w.heap.size (x0, x1) from N.out)
    have BD := show Below w.heap.size w (w.alloc (.cells #[.int .i64 x0, .int .i64 x1] 47)).drew from below_drewN B0 1
    have T1 := fun W (hW : Below w.heap.size w W) => toEnS_own A c l W (HA.out.below hW) hl
    have T2 := fun W => toEn_any (x0, x1) W
    have T3 := fun W g (h : EnL W (some ⟨g, 0, none⟩) l) => sLogAppend_any (some ⟨g, 0, none⟩) l.length l n (x0, x1) W h (by simp) hl1
    rw [← HR.out] at T3
    simp only at T2 T3
    go_wp2
    go_region_law (first
      | (go_simp; go_at_call 36; refine (T1 _ BD).mono ?_; rintro e wA ⟨gA, rfl, oA, bA⟩; obtain ⟨p0, p1⟩ := (ND.out.below bA).c; simp only at p0 p1)
      | (go_simp; go_at_call 36; refine (T1 _ (below_step BD bB)).mono ?_; rintro e wA ⟨gA, rfl, oA, bA⟩)
      | (go_simp; go_at_call 38; (with_reducible refine (T2 _).mono ?_); rintro e wB ⟨rfl, bB⟩)
      | (go_simp; go_at_call 28; (with_reducible refine (T3 _ _ (oA.below bB).rd).mono ?_); rintro e wC ⟨AW, cW, rfl, oW, bC⟩)
      | (go_simp; go_at_call 28; (with_reducible refine (T3 _ _ oA.rd).mono ?_); rintro e wC ⟨AW, cW, rfl, oW, bC⟩)
      | fail)
    all_goals (
      have BW : Below w.heap.size w wC := by first | exact below_step (below_step (below_step BD bA) bB) bC | exact below_step (below_step (below_step BD bB) bA) bC
      have NW : AFEn wC w.heap.size (x0, x1) := by first | exact ((ND.out.below bA).below bB).below bC | exact ((ND.out.below bB).below bA).below bC
      have OW := oW
      have HSZ := Lib.hid (show w.heap.size + 1 ≤ wC.heap.size from NW.lt)
      have T3 := fun W g (h : EnL W (some ⟨g, 0, none⟩) l) => iLogAppend_any (some ⟨g, 0, none⟩) l.length l n (x0, x1) W h hl1
      rw [← HR.out] at T3
      simp only at T3
      have et1 : (t != t) = false := by simp
      have et2 : (t == t) = true := by simp
      clear bA bB bC oA oW BD ND N B0 c0 c1
      first | clear p0 p1 | skip
      go_wp2_with fail
      refine (T1 _ BW).mono ?_
      rintro e w4 ⟨g4, rfl, OX, b4⟩
      have OW := OW.below b4
      have NW := NW.below b4
      have B4 := below_step BW b4
      have s4 := b4.size
      clear BW b4
      obtain ⟨c0, c1⟩ := NW.c
      simp only at c0 c1
      have NW := Lib.hid NW
      go_wp2_with fail
      refine (T2 _).mono ?_
      rintro e w5 ⟨rfl, b5⟩
      have OX := OX.below b5
      have OW := OW.below b5
      have NW := Lib.hid (NW.out.below b5)
      have B5 := below_step B4 b5
      have s5 := b5.size
      clear B4 b5 c0 c1
      go_wp2_with fail
      refine (T3 _ _ OX.rd).mono ?_
      rintro e w6 ⟨AG, cG, rfl, OG, b6⟩
      have OX := OX.below b6
      have OW := OW.below b6
      have NW := Lib.hid (NW.out.below b6)
      have B6 := below_step B5 b6
      have s6 := b6.size
      clear B5 b6
      go_wp2_with fail
      refine (eqEnS_yes _ _ _ _ _ _ OG.rd OW.rd hrl).mono ?_
      rintro e w7 ⟨rfl, b7⟩
      have OX := OX.below b7
      have OW := OW.below b7
      have OG := OG.below b7
      have NW := Lib.hid (NW.out.below b7)
      have B7 := below_step B6 b7
      clear B6 b7
      go_wp2_with fail
      refine (T1 _ B7).mono ?_
      rintro e w8 ⟨g8, rfl, o8, b8⟩
      have OX := OX.below b8
      have OW := OW.below b8
      have OG := OG.below b8
      have NW := Lib.hid (NW.out.below b8)
      have B8 := below_step B7 b8
      clear B7 b8
      go_wp2_with fail
      refine (eqEnS_yes _ _ _ _ _ _ OX.rd o8.rd hl1).mono ?_
      rintro e w9 ⟨rfl, b9⟩
      have OX := OX.below b9
      have OW := OW.below b9
      have OG := OG.below b9
      have NW := Lib.hid (NW.out.below b9)
      have B9 := below_step B8 b9
      clear B8 b9 o8
      have sw := B9.size
      go_wp2_with fail
      refine (markEnS_own _ _ _ _ _ 1 _ (by omega) _ OX hl1 (by omega)).mono ?_
      rintro e w10 ⟨rfl, o10, k10⟩
      have OW := OW.keep k10 (by omega)
      have OG := OG.keep k10 (by omega)
      have NW := Lib.hid (NW.out.kept (k10.block _ NW.out.lt (by have := HSZ.out; omega)))
      have B10 := below_keep B9 k10 (by have := HSZ.out; omega)
      clear B9 o10 k10 OX
      go_wp2_with fail
      refine (eqEnS_yes _ _ _ _ _ _ OG.rd OW.rd hrl).mono ?_
      rintro e w11 ⟨rfl, b11⟩
      have OW := OW.below b11
      have OG := OG.below b11
      have NW := Lib.hid (NW.out.below b11)
      have B11 := below_step B10 b11
      clear B10 b11
      go_wp2_with fail
      refine (markEnS_own _ _ _ _ _ 1 _ (by omega) _ OG hrl (by omega)).mono ?_
      rintro e w12 ⟨rfl, OG2, k12⟩
      have OW := OW.keep k12 (by omega)
      have NW := Lib.hid (NW.out.kept (k12.block _ NW.out.lt (by have := HSZ.out; omega)))
      have B12 := below_keep B11 k12 (by have := HSZ.out; omega)
      clear B11 k12 OG
      go_wp2_with fail
      refine (heldEnS_any _ _ _ 1 _ (by omega) _ OG2.rd hrl (by omega)).mono ?_
      rintro e w' ⟨rfl, rfl⟩
      have BD := show Below w.heap.size w w12.drew from below_drewN B12 1
      have ND := Lib.hid (show AFEn w12.drew w.heap.size (x0, x1) from NW.out)
      have OWD := show OEn w12.drew _ _ AW cW r from OW
      have OGD := show OEn w12.drew _ _ AG cG (marksEn 1 r.length) from OG2
      obtain ⟨c0, c1⟩ := NW.out.c
      simp only at c0 c1
      clear NW B12 OW OG2
      go_wp2
      go_region_law (first
        | (go_simp; go_at_call 36; refine (T1 _ BD).mono ?_; rintro e wA ⟨gA, rfl, oA, bA⟩; obtain ⟨p0, p1⟩ := (ND.out.below bA).c; simp only at p0 p1)
        | (go_simp; go_at_call 36; refine (T1 _ (below_step BD bB)).mono ?_; rintro e wA ⟨gA, rfl, oA, bA⟩)
        | (go_simp; go_at_call 38; (with_reducible refine (T2 _).mono ?_); rintro e wB ⟨rfl, bB⟩)
        | (go_simp; go_at_call 21; (with_reducible refine (T3 _ _ (oA.below bB).rd).mono ?_); rintro e wE ⟨AE, cE, rfl, oE, bE⟩)
        | (go_simp; go_at_call 21; (with_reducible refine (T3 _ _ oA.rd).mono ?_); rintro e wE ⟨AE, cE, rfl, oE, bE⟩)
        | fail)
      all_goals (
        have B13 : Below w.heap.size w wE := by first | exact below_step (below_step (below_step BD bA) bB) bE | exact below_step (below_step (below_step BD bB) bA) bE
        have OW : EnL wE AW r := by first | exact (((OWD.below bA).below bB).below bE).rd | exact (((OWD.below bB).below bA).below bE).rd
        have OG2 : EnL wE AG (marksEn 1 r.length) := by first | exact (((OGD.below bA).below bB).below bE).rd | exact (((OGD.below bB).below bA).below bE).rd
        clear bA bB bE oA BD ND OWD OGD c0 c1 T1 T2 T3
        first | clear p0 p1 | skip
        go_wp2_with fail
        refine (eqEnS_yes _ _ _ _ _ _ oE.rd OW hrl).mono ?_
        rintro e w14 ⟨rfl, b14⟩
        have OG2 := OG2.below b14
        have B14 := below_step B13 b14
        clear B13 b14 oE OW
        go_wp2_with fail
        refine (heldEnS_any _ _ _ 1 _ (by omega) _ OG2 hrl (by omega)).mono ?_
        rintro e w' ⟨rfl, rfl⟩
        clear OG2
        go_wp2
        go_ret
        exact ⟨rfl, B14⟩))
  · have H0 := Lib.hid ha
    clear ha
    go_enter Try.func15, Try.ntmps15
    go_wp2_with fail
    refine (szEn_any _ _ _ _ hm).mono ?_
    rintro e w1 ⟨z, rfl, hz, rfl⟩
    have z0 : z < 0 := by
      rcases Int.lt_or_le z 0 with h | h
      · exact h
      · exact absurd (hz.1 h) hl
    clear hz hm
    go_wp2
    go_ret
    exact ⟨rfl, (Below.refl _ w).alloc (Nat.le_refl _) _⟩

end Go.Proofs.Ytimijinldhpmfaa
