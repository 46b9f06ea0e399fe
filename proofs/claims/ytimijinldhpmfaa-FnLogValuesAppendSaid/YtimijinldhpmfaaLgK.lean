/- Logs: the program's LogAppend, LogOpen, LogValues, by their contracts. -/
import Derived.Test.YtimijinldhpmfaaLgJ
namespace Go.Proofs.Ytimijinldhpmfaa
open Go.RowKit

/-- A log in new memory, and whether. -/
def Ent2 (w : World) (l : List En) (t : Bool) (e : Ending) (w' : World) : Prop :=
  ∃ A c, e = .returned (.tuple #[.slice A l.length c, .bool t]) ∧ OEn w' w.heap.size w'.heap.size A c l ∧ Below w.heap.size w w'
theorem row_below {w w' : World} {base : Nat} {e : TypeId} {size n : Nat} {v : Value} {xs : List Value} (h : w.ownsRow base e size v n xs) (b : Below w.heap.size w w') : w'.ownsRow base e size v n xs :=
  h.kept (row := none) ⟨b.os, b.tape, b.output, b.size, fun i hi _ => b.block i hi⟩ (by cases v.ownBlock <;> simp)
theorem OEn.nil (w : World) (lo : Nat) : OEn w lo w.heap.size none 0 [] := OEn.of_new (T := 28) (World.ownsRow_nil _ _ _ _)
theorem OEn.down {w : World} {lo hi lo2 c : Nat} {A : Option Addr} {l : List En} (h : OEn w lo hi A c l) (h2 : lo2 ≤ lo) : OEn w lo2 hi A c l := by
  obtain ⟨T, ho, hh, hb⟩ := h
  exact ⟨T, own_base ho h2, hh, fun g hg => ⟨Nat.le_trans h2 (hb g hg).1, (hb g hg).2⟩⟩
theorem lapp_no {l : List En} {n : Int} {e : En} (h : okL l n = false ∨ okE n e = false) : lapp l n e = ([], false) := by
  rw [lapp, if_neg]
  intro h2
  rcases h with h | h
  · rw [h] at h2; cases h2.1
  · rw [h] at h2; cases h2.2
theorem lapp_full {l : List En} {n : Int} {e : En} (h : okL l n = true) (h1 : okE n e = true) (h2 : l.length = 12) : lapp l n e = (l, false) := by simp [lapp, h, h1, h2]
theorem lapp_yes {l : List En} {n : Int} {e : En} (h : okL l n = true) (h1 : okE n e = true) (h2 : ¬ l.length = 12) : lapp l n e = (l ++ [e], true) := by
  have := (okL_parts h).2.2
  rw [lapp, if_pos ⟨h, h1⟩, if_neg (by omega)]
set_option maxRecDepth 100000 in
set_option maxHeartbeats 1600000 in
theorem iLogAppend_any (A : Option Addr) (c : Nat) (l : List En) (n : Int) (x : En) (w : World) (ha : EnL w A l) (hl : l.length ≤ 1048577) :
    Calls Try.prog 21 #[.slice A l.length c, .int .i64 n, .agg #[.int .i64 x.1, .int .i64 x.2]] w (Ent2 w (lapp l n x).1 (lapp l n x).2) := by
  obtain ⟨⟨m, t⟩, hr⟩ : ∃ r, r = lapp l n x := ⟨_, rfl⟩
  have HR := Lib.hid hr
  rw [← hr]
  clear hr
  obtain ⟨x0, x1⟩ := x
  have B0 := (Below.refl _ w).alloc (Nat.le_refl _) (.cells #[.int .i64 x0, .int .i64 x1] 28)
  have N := Lib.hid (AFEn.new w (x0, x1) 28)
  have H0 := Lib.hid (ha.below B0)
  clear ha
  go_enter Try.func21, Try.ntmps21
  go_wp2_with fail
  refine (logOf_any _ _ _ _ _ H0.out hl).mono ?_
  rintro e w1 ⟨v, rfl, hv, b1⟩
  have B1 := below_step B0 b1
  have N1 := Lib.hid (N.out.below b1)
  obtain ⟨c0, c1⟩ := N1.out.c
  simp only at c0 c1
  clear B0 b1 N
  by_cases hok : okL l n = true
  · have HV := Lib.hid (hv hok)
    have HL := (okL_parts hok).2.2
    have HO := Lib.hid hok
    rw [hok]
    clear hv hok
    go_wp2_with fail
    refine (isEntry_any (x0, x1) n _).mono ?_
    rintro e w2 ⟨rfl, b2⟩
    have HV2 := Lib.hid (HV.out.below (Nat.le_refl _) b2)
    have hz := b2.size
    have B2 := below_step B1 b2
    have N2 := Lib.hid (N1.out.below b2)
    obtain ⟨d0, d1⟩ := N2.out.c
    simp only at d0 d1
    clear B1 b2 c0 c1
    by_cases hx : okE n (x0, x1) = true
    · have HX := Lib.hid hx
      rw [hx]
      clear hx
      go_wp2_with fail
      refine (lenN_any _ _ _ _ HV2.out (by simpa using (by omega : l.length ≤ 100))).mono ?_
      rintro e w3 ⟨rfl, rfl⟩
      rw [List.length_reverse]
      by_cases h12 : l.length = 12
      · have e1 : ((l.length : Int) == 12) = true := by simp; omega
        have E := HR.out.trans (lapp_full HO.out HX.out h12)
        injection E with E1 E2
        subst E1; subst E2
        clear h12
        go_wp2_with fail
        refine (entriesI_any _ _ _ _ HV2.out hz (by omega)).mono ?_
        rintro e w4 ⟨A4, c4, rfl, o4, b4⟩
        have Z := Lib.hid (And.intro (o4.down B2.size) (below_step B2 b4))
        clear o4 b4 B2
        go_wp2
        go_ret2
        exact ⟨_, _, rfl, Z.out.1, Z.out.2⟩
      · have e1 : ((l.length : Int) == 12) = false := by simp; omega
        have E := HR.out.trans (lapp_yes HO.out HX.out h12)
        injection E with E1 E2
        subst E2
        have hml : m.length ≤ 100 := by rw [E1]; simp; omega
        have EM := Lib.hid E1
        clear h12 E1
        go_wp2_with fail
        refine (follow_any (x0, x1) _ _ _ _ HV2.out hz (by simpa using (by omega : l.length ≤ 100))).mono ?_
        rintro e w4 ⟨u, rfl, hu, b4⟩
        have HU := Lib.hid (show LN w4 w4.heap.size m.reverse u by rw [EM.out]; simpa using hu)
        have B4 := below_step B2 b4
        obtain ⟨q, rfl⟩ := hu.ptr
        clear hu b4 B2 d0 d1
        go_wp2_with fail
        refine (entriesI_any _ _ _ _ HU.out (Nat.le_refl _) hml).mono ?_
        rintro e w5 ⟨A4, c4, rfl, o4, b4⟩
        have Z := Lib.hid (And.intro (o4.down B4.size) (below_step B4 b4))
        clear o4 b4 B4
        go_wp2
        go_ret2
        exact ⟨_, _, rfl, Z.out.1, Z.out.2⟩
    · rw [Bool.not_eq_true] at hx
      have E := HR.out.trans (lapp_no (.inr hx))
      injection E with E1 E2
      subst E1; subst E2
      rw [hx]
      clear hx d0 d1
      go_wp2
      go_ret2
      exact ⟨none, 0, rfl, OEn.nil _ _, B2⟩
  · rw [Bool.not_eq_true] at hok
    have E := HR.out.trans (lapp_no (.inl hok))
    injection E with E1 E2
    subst E1; subst E2
    rw [hok]
    clear hok hv c0 c1
    go_wp2
    go_ret2
    exact ⟨none, 0, rfl, OEn.nil _ _, B1⟩

theorem lopen_yes {l : List En} {n : Int} (h : okL l n = true) : lopen l n = (List.range 2).map fun (j : Nat) => conf l ((l.length : Int) + j) := by
  rw [lopen, if_pos h]; rfl
theorem conf_small {l : List En} {n s : Int} (h : okL l n = true) : 1 ≤ conf l s ∧ conf l s ≤ 5 := by
  obtain ⟨h1, h2, _⟩ := okL_parts h
  have h3 := okN_iff.1 h2
  have := conf_range (s := s) h1 h3.1
  omega
def upC (l : List En) (j : Nat) : List Int := (List.range j).map fun (i : Nat) => conf l ((l.length : Int) + i)
theorem upC_next (l : List En) (j : Nat) : upC l (j + 1) = upC l j ++ [conf l ((l.length : Int) + j)] := by simp [upC, List.range_succ]
theorem upC_len (l : List En) (j : Nat) : (upC l j).length = j := by simp [upC]
set_option maxRecDepth 100000 in
set_option maxHeartbeats 1600000 in
theorem iLogOpen_any (A : Option Addr) (c : Nat) (l : List En) (n : Int) (w : World) (ha : EnL w A l) (hl : l.length ≤ 1048577) :
    Calls Try.prog 23 #[.slice A l.length c, .int .i64 n] w (New w (lopen l n)) := by
  obtain ⟨i0, hi0, hz0, hz1, hz2⟩ := info_parts int_info
  obtain ⟨m, hr⟩ : ∃ r, r = lopen l n := ⟨_, rfl⟩
  have HR := Lib.hid hr
  rw [← hr]
  clear hr
  have H0 := Lib.hid ha
  clear ha
  go_enter Try.func23, Try.ntmps23
  go_wp2_with fail
  refine (logOf_any _ _ _ _ _ H0.out hl).mono ?_
  rintro e w1 ⟨v, rfl, hv, b1⟩
  by_cases hok : okL l n = true
  · have HV := Lib.hid (hv hok)
    have HL := (okL_parts hok).2.2
    have HO := Lib.hid hok
    obtain ⟨q, rfl⟩ := (hv hok).ptr
    rw [hok]
    obtain rfl : m = upC l 2 := HR.out.trans (lopen_yes hok)
    clear hv hok HR
    go_wp2_with fail
    refine (lenN_any _ _ _ _ HV.out (by simpa using (by omega : l.length ≤ 100))).mono ?_
    rintro e w2 ⟨rfl, rfl⟩
    rw [List.length_reverse]
    have HB1 := Lib.hid b1
    clear b1
    go_wp2
    go_loopw [7, 8] (fun v i wr => ∃ j : Nat, j ≤ 2 ∧ i = .int .i64 ((l.length : Int) + j) ∧ wr.ownsRow w1.heap.size 3 1 v (upC l j).length ((upC l j).map (Value.int .i64)) ∧ Below w1.heap.size w1 wr) (fun _ i _ => l.length + 2 - (intOf i).toNat)
    case atStart => exact ⟨0, by omega, by simp, World.ownsRow_nil _ _ _ _, Below.refl _ _⟩
    case round =>
      obtain ⟨j, hj, rfl, hown, hbel⟩ := hrel
      have hln := Lib.hid (HV.out.below (Nat.le_refl _) hbel)
      go_wp2_with fail
      refine (slots_any _ _ _ _ hln.out (by simpa using (by omega : l.length ≤ 100))).mono ?_
      rintro e w2 ⟨rfl, rfl⟩
      rw [List.length_reverse]
      by_cases hlt : j < 2
      · have e1 : decide ((l.length : Int) + (j : Int) < (l.length : Int) + 2) = true := by simp; omega
        have hs : 0 ≤ (l.length : Int) + (j : Int) ∧ (l.length : Int) + (j : Int) ≤ 100 := by omega
        go_wp2_with fail
        refine (confI_any _ _ _ _ _ hln.out hbel.size hs (by simpa using (by omega : l.length ≤ 100))).mono ?_
        rintro e w3 ⟨rfl, b3⟩
        rw [confR_l _ HO.out]
        have K := conf_small (s := (l.length : Int) + (j : Int)) HO.out
        have hown3 := row_below hown b3
        have HB3 := below_step hbel b3
        have hup : (upC l j).length ≤ 2 := by rw [upC_len]; exact hj
        have EN := Lib.hid (upC_next l j)
        clear hbel b3 hown hln
        generalize conf l ((l.length : Int) + (j : Int)) = y at *
        generalize upC l j = u at *
        go_wp2_with (at_builtin; refine wpList_append_own _ rfl (.tmp 25) (.tmp 29) 35 rfl w1.heap.size 3 i0 (.int .i64 0) 1 8 Try.underlying35 hi0 hz0 hz1 hz2 rfl (by decide) _ _ _ rfl (hown3.alloc _) ⟨w3.heap.size, 0, none⟩ 1 1 [.int .i64 y] rfl rfl (cell_one_new _ _ _) (ints_oneCell .i64 [y]) (by unfold maxLen; omega) (by omega) (by have := HB3.size; simp; omega) ?_)
        intro v' w4 hown' hgrow _
        have R := app_one hown3 HB3 hown' hgrow
        rw [← EN.out] at R
        have HR := Lib.hid R
        clear R hown3 HB3 hown' hgrow hs e1 EN
        go_wp2
        go_roundw
        case rel => exact ⟨j + 1, by omega, by go_num, HR.out.1, HR.out.2⟩
        case measure => simp [intOf]; omega
      · have hj2 : j = 2 := by omega
        subst hj2
        have e1 : decide ((l.length : Int) + ((2 : Nat) : Int) < (l.length : Int) + 2) = false := by simp
        have HN := Lib.hid (New.later HB1.out (New.mk hown hbel))
        clear hown hbel
        go_wp2
        go_ret
        exact HN.out
  · rw [Bool.not_eq_true] at hok
    obtain rfl : m = [] := HR.out.trans (by rw [lopen, if_neg]; rw [hok]; simp)
    rw [hok]
    clear hok hv
    go_wp2
    go_ret
    exact New.nil b1
theorem lvals_yes {l : List En} {n : Int} (h : okL l n = true) : lvals l n = vals l := by rw [lvals, if_pos h]
set_option maxRecDepth 100000 in
set_option maxHeartbeats 1600000 in
theorem iLogValues_any (A : Option Addr) (c : Nat) (l : List En) (n : Int) (w : World) (ha : EnL w A l) (hl : l.length ≤ 1048577) :
    Calls Try.prog 32 #[.slice A l.length c, .int .i64 n] w (New w (lvals l n)) := by
  obtain ⟨i0, hi0, hz0, hz1, hz2⟩ := info_parts int_info
  obtain ⟨m, hr⟩ : ∃ r, r = lvals l n := ⟨_, rfl⟩
  have HR := Lib.hid hr
  rw [← hr]
  clear hr
  have H0 := Lib.hid ha
  clear ha
  go_enter Try.func32, Try.ntmps32
  go_wp2_with fail
  refine (logOf_any _ _ _ _ _ H0.out hl).mono ?_
  rintro e w1 ⟨v, rfl, hv, b1⟩
  by_cases hok : okL l n = true
  · have HV := Lib.hid (hv hok)
    have HL := (okL_parts hok).2.2
    obtain ⟨q, rfl⟩ := (hv hok).ptr
    rw [hok]
    obtain rfl : m = vals l := HR.out.trans (lvals_yes hok)
    clear hv hok HR
    go_wp2_with fail
    refine (entriesI_any _ _ _ _ HV.out (Nat.le_refl _) (by omega)).mono ?_
    rintro e w2 ⟨A2, c2, rfl, o2, b2⟩
    have HE := Lib.hid o2.rd
    have HB1 := Lib.hid (below_step b1 b2)
    clear b1 b2 o2 H0
    go_wp2
    go_loopw [7, 21] (fun v i wr => ∃ j : Nat, j ≤ l.length ∧ i = .int .i64 j ∧ wr.ownsRow w2.heap.size 3 1 v (vals (l.take j)).length ((vals (l.take j)).map (Value.int .i64)) ∧ Below w2.heap.size w2 wr) (fun _ i _ => l.length - (intOf i).toNat)
    case atStart => exact ⟨0, by omega, by simp, World.ownsRow_nil _ _ _ _, Below.refl _ _⟩
    case round =>
      obtain ⟨j, hj, rfl, hown, hbel⟩ := hrel
      by_cases hlt : j < l.length
      · obtain ⟨b, off, x, rfl, hx, c0, c1⟩ := (HE.out.below hbel).at_ hlt
        have EN := Lib.hid (vals_take hx)
        have hki : (0 : Int) ≤ (j : Int) := by omega
        have hki2 : (j : Int) < (l.length : Int) := by omega
        obtain ⟨x0, x1⟩ := x
        have N := Lib.hid (AFEn.new wr (x0, x1) 28)
        have HB2 := hbel.alloc hbel.size (.cells #[.int .i64 x0, .int .i64 x1] 28)
        have hown2 := hown.alloc (.cells #[.int .i64 x0, .int .i64 x1] 28)
        clear hx hown hbel
        go_wp2_with fail
        refine (isChange_any (x0, x1) _).mono ?_
        rintro e w3 ⟨rfl, b3⟩
        have HB3 := below_step HB2 b3
        have hown3 := row_below hown2 b3
        obtain ⟨d0, d1⟩ := (N.out.below b3).c
        simp only at d0 d1
        have hup : (vals (l.take j)).length ≤ 12 := Nat.le_trans (vals_len _) (by simp; omega)
        clear hown2 HB2 b3 c0 c1
        by_cases h0 : x1 = 0
        · subst h0
          have e1 : ((0 : Int) != 0) = false := rfl
          have EN2 := Lib.hid (EN.out.trans (if_pos rfl))
          simp only [e1]
          clear EN
          generalize vals (l.take j) = u at *
          go_wp2_with (at_builtin; refine wpList_append_own _ rfl (.tmp 28) (.tmp 31) 35 rfl w2.heap.size 3 i0 (.int .i64 0) 1 8 Try.underlying35 hi0 hz0 hz1 hz2 rfl (by decide) _ _ _ rfl (hown3.alloc _) ⟨w3.heap.size, 0, none⟩ 1 1 [.int .i64 x0] rfl rfl (cell_one_new _ _ _) (ints_oneCell .i64 [x0]) (by unfold maxLen; omega) (by omega) (by have := HB3.size; simp; omega) ?_)
          intro v' w4 hown' hgrow _
          have R := app_one hown3 HB3 hown' hgrow
          have R2 := Lib.hid (show w4.ownsRow w2.heap.size 3 1 v' (vals (l.take (j + 1))).length ((vals (l.take (j + 1))).map (Value.int .i64)) ∧ Below w2.heap.size w2 w4 by rw [EN2.out]; exact R)
          clear R hown3 HB3 hown' hgrow EN2 d0 d1 HE
          go_wp2
          go_roundw
          case rel => exact ⟨j + 1, by omega, by go_num, R2.out.1, R2.out.2⟩
          case measure => simp [intOf]; omega
        · have e1 := bne_zero h0
          have EN2 := Lib.hid (EN.out.trans (if_neg h0))
          have R2 := Lib.hid (show w3.ownsRow w2.heap.size 3 1 _ (vals (l.take (j + 1))).length ((vals (l.take (j + 1))).map (Value.int .i64)) ∧ Below w2.heap.size w2 w3 by rw [EN2.out]; exact ⟨hown3, HB3⟩)
          simp only [e1]
          clear EN EN2 hown3 HB3 d0 d1 HE
          go_wp2
          go_roundw
          case rel => exact ⟨j + 1, by omega, by go_num, R2.out.1, R2.out.2⟩
          case measure => simp [intOf]; omega
      · have hj2 : j = l.length := by omega
        subst hj2
        rw [List.take_length] at hown
        have HN := Lib.hid (New.later HB1.out (New.mk hown hbel))
        clear hown hbel
        go_wp2
        go_ret
        exact HN.out
  · rw [Bool.not_eq_true] at hok
    obtain rfl : m = [] := HR.out.trans (by rw [lvals, if_neg]; rw [hok]; simp)
    rw [hok]
    clear hok hv
    go_wp2
    go_ret
    exact New.nil b1
end Go.Proofs.Ytimijinldhpmfaa
