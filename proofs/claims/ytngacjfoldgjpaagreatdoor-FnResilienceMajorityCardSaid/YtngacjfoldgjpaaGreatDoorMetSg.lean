/- The reference model's measures of quorum systems, by their contracts. -/
import Derived.Test.YtngacjfoldgjpaaGreatDoorMetg
import Derived.Test.YtngacjfoldgjpaaGreatDoorGb
namespace Go.Proofs.YtngacjfoldgjpaaGreatDoor
open Go.RowKit

set_option maxRecDepth 100000 in
set_option maxHeartbeats 1600000 in
theorem l12Fits_any (A : Option Addr) (c : Nat) (F : List (List Int)) (n : Int) (w : World) (ha : ISS w A F) (hl : F.length ≤ 1048576) (hs : Short F 1048576) :
    Calls Tryz.prog 17 #[.slice A F.length c, .int .i64 n] w fun e w' => e = .returned (.bool (fitB F n)) ∧ Drew w w' := by
  cases hf : famOk F
  · have HF := Lib.hid hf
    have HB := Lib.hid (show fitB F n = false by simp [fitB, transOk, hf])
    clear hf
    go_enter Tryz.func17, Tryz.ntmps17
    go_wp2_with fail
    refine (specFam_any _ _ _ _ ha hl hs).mono ?_
    rintro e w1 ⟨he, hd1⟩
    rw [HF.out] at he
    subst he
    go_wp2
    go_ret
    exact ⟨ret_bool HB.out.symm, hd1⟩
  · by_cases h0 : F.length = 0
    · have HF := Lib.hid hf
      have HB := Lib.hid (show fitB F n = false by simp [fitB, transOk, h0])
      have h0b : ((F.length : Int) == 0) = true := by simp [h0]
      clear hf h0
      go_enter Tryz.func17, Tryz.ntmps17
      go_wp2_with fail
      refine (specFam_any _ _ _ _ ha hl hs).mono ?_
      rintro e w1 ⟨he, hd1⟩
      rw [HF.out] at he
      subst he
      go_wp2
      go_ret
      exact ⟨ret_bool HB.out.symm, hd1⟩
    · have h0b : ((F.length : Int) == 0) = false := beq_eq_false_iff_ne.2 (by omega)
      by_cases hn : 1 ≤ n ∧ n ≤ 6
      · obtain ⟨hn1, hn6⟩ := hn
        obtain ⟨m, rfl⟩ := Int.eq_ofNat_of_zero_le (show 0 ≤ n by omega)
        have HF := Lib.hid hf
        have HB := Lib.hid (show fitB F (m : Int) = fitM (msks F) (fst m) by
          show (transOk F && decide (1 ≤ (m : Int)) && decide ((m : Int) ≤ 6) && fitM (msks F) (fst (m : Int).toNat)) = _
          rw [show transOk F = true by simp [transOk, hf]; omega, decide_eq_true hn1, decide_eq_true hn6]
          rfl)
        have HR := Lib.hid (fun (k : Nat) (l : List Int) (hx : F[k]? = some l) => fam_row hf hx)
        clear hf h0
        go_enter Tryz.func17, Tryz.ntmps17
        go_wp2_with fail
        refine (specFam_any _ _ _ _ ha hl hs).mono ?_
        rintro e w1 ⟨he, hd1⟩
        rw [HF.out] at he
        subst he
        go_wp2_with fail
        refine (l6In_yes' _ _ _ _ hn1 hn6).mono ?_
        rintro e w' ⟨rfl, rfl⟩
        go_wp2
        go_loopw [5] (fun i wr => ∃ k : Nat, k ≤ F.length ∧ i = .int .i64 k ∧ Hid (fitM (msks (F.take k)) (fst m) = true) ∧ Drew w wr) (fun i _ => F.length - (intOf i).toNat)
        case atStart => exact ⟨0, Nat.zero_le _, rfl, (by show _ = _; simp [fitM, msks]), hd1⟩
        case round =>
          obtain ⟨k, hk, rfl, hyes, hd⟩ := hrel
          by_cases hlt : k < F.length
          · have ha2 := ha.below hd.below
            obtain ⟨b, off, l, B', d', rfl, hx, hc, hil⟩ := ha2.at_ hlt
            obtain ⟨hv, hl0⟩ := HR.out _ _ hx
            have hll := hs.at_ hx
            obtain ⟨b2, off2, x, rfl, hx2, hc2⟩ := hil.at_ (k := l.length - 1) (by omega)
            have hki : (0 : Int) ≤ (k : Int) := by omega
            have hki2 : (k : Int) < (F.length : Int) := by omega
            have hli : (0 : Int) ≤ (l.length : Int) - 1 := by omega
            have hli2 : (l.length : Int) - 1 < (l.length : Int) := by omega
            have hln : ((l.length : Int) - 1).toNat = l.length - 1 := by omega
            have hsub := last_sub hv (n := m) (by omega) hx2
            by_cases hxm : x ≤ (m : Int)
            · have H := Lib.hid (show fitM (msks (F.take (k + 1))) (fst m) = true by rw [fitM_take hx, hyes.out, hsub, decide_eq_true hxm]; rfl)
              have hxm2 : ¬ ((m : Int) < x) := by omega
              clear hx hyes hsub hx2
              go_wp2
              go_quiet (fail)
              go_wp2
              go_roundw
              case rel => exact ⟨k + 1, by omega, by go_num, H.out, hd.more _⟩
              case measure => simp [intOf]; omega
            · have H := Lib.hid (show fitB F (m : Int) = false by rw [HB.out, fitM_no hx (by rw [hsub, decide_eq_false hxm])])
              have hxm2 : (m : Int) < x := by omega
              clear hx hyes hsub hx2
              go_wp2
              go_quiet (fail)
              go_wp2
              go_ret
              exact ⟨ret_bool H.out.symm, hd.more _⟩
          · have hkl : k = F.length := by omega
            subst hkl
            have H := Lib.hid (show fitB F (m : Int) = true by have := hyes.out; rwa [List.take_length, ← HB.out] at this)
            clear hyes
            go_wp2
            go_ret
            exact ⟨ret_bool H.out.symm, hd⟩
      · have HF := Lib.hid hf
        have HB := Lib.hid (show fitB F n = false by
          rw [Bool.eq_false_iff]
          intro h
          have := fitB_parts.1 h
          exact hn ⟨this.2.1, this.2.2.1⟩)
        have hn' : n < 1 ∨ 6 < n := by omega
        clear hf h0 hn
        go_enter Tryz.func17, Tryz.ntmps17
        go_wp2_with fail
        refine (specFam_any _ _ _ _ ha hl hs).mono ?_
        rintro e w1 ⟨he, hd1⟩
        rw [HF.out] at he
        subst he
        go_wp2_with fail
        refine (l6In_no' _ _ _ _ hn').mono ?_
        rintro e w' ⟨rfl, rfl⟩
        go_wp2
        go_ret
        exact ⟨ret_bool HB.out.symm, hd1⟩

set_option maxRecDepth 100000 in
set_option maxHeartbeats 1600000 in
theorem l12First_any (n : Nat) (w : World) (hn : n ≤ 6) : Calls Tryz.prog 21 #[.int .i64 n] w (New w (mem (fst n))) := by
  obtain ⟨i0, hi0, hz0, hz1, hz2⟩ := info_parts int_info
  have h00 : (w.alloc (.cells #[] 3)).ownsRow w.heap.size 3 1 (.slice (some ⟨w.heap.size, 0, none⟩) 0 0) 0 ([].map (Value.int .i64)) := World.ownsRow_made w #[] 0 (Nat.le_refl _) (by unfold maxLen; omega) (by simp)
  have H0 := Lib.hid (And.intro h00 ((Below.refl w.heap.size w).alloc (Nat.le_refl _) (.cells #[] 3)))
  clear h00
  go_enter Tryz.func21, Tryz.ntmps21
  go_wp2
  go_loopw [3, 4] (fun v i wr => ∃ (k : Nat) (l : List Int) (A : Option Addr) (c : Nat), k ≤ n ∧ i = .int .i64 ((k + 1 : Nat) : Int) ∧ v = .slice A l.length c ∧ Hid (l = mem (fst k)) ∧ l.length ≤ 6 ∧ wr.ownsRow w.heap.size 3 1 (.slice A l.length c) l.length (l.map (Value.int .i64)) ∧ Below w.heap.size w wr) (fun _ i _ => n + 1 - (intOf i).toNat)
  case atStart => exact ⟨0, [], _, _, Nat.zero_le _, rfl, rfl, Lib.hid (by decide), by simp, H0.out.1, H0.out.2⟩
  case round =>
    clear H0
    obtain ⟨k, l, A, c, hk, rfl, rfl, HP, hl6, hown, hbel⟩ := hrel
    by_cases hlt : k < n
    · have hki : ((k + 1 : Nat) : Int) ≤ (n : Int) := by omega
      have HP2 := Lib.hid (show l ++ [((k + 1 : Nat) : Int)] = mem (fst (k + 1)) by rw [fst_snoc (by omega), HP.out])
      have hll : (l ++ [((k + 1 : Nat) : Int)]).length ≤ 6 := by rw [HP2.out]; exact mem_len _
      have hsz := hbel.size
      clear HP
      obtain ⟨q, hq⟩ : ∃ q : Nat, q = k + 1 := ⟨_, rfl⟩
      rw [← hq] at hki HP2 hll ⊢
      have HQ := Lib.hid hq
      clear hq
      go_wp2_with (at_builtin; refine wpList_append_own _ rfl (.tmp 11) (.tmp 13) 29 rfl w.heap.size 3 i0 (.int .i64 0) 1 8 Tryz.underlying29 hi0 hz0 hz1 hz2 rfl (by decide) _ _ _ rfl (hown.alloc _) ⟨wr.heap.size, 0, none⟩ 1 1 [.int .i64 (q : Int)] rfl rfl (cell_one_new _ _ _) (ints_oneCell .i64 [(q : Int)]) (by unfold maxLen; omega) (by omega) (by simp; omega) ?_)
      intro v' w4 ho4 hg4 _
      have b4 : Below w.heap.size w w4 := app_gen hown (Nat.le_refl _) hbel hg4
      obtain ⟨A4, c4, rfl⟩ := own_slice ho4
      have ho5 : w4.ownsRow w.heap.size 3 1 (.slice A4 (l ++ [(q : Int)]).length c4) (l ++ [(q : Int)]).length ((l ++ [(q : Int)]).map (Value.int .i64)) := by simpa using ho4
      have e5 : l.length + 1 = (l ++ [(q : Int)]).length := by simp
      rw [e5]
      have D := Lib.hid (And.intro ho5 b4)
      clear ho4 ho5 hg4 b4 hown hbel e5
      generalize l ++ [(q : Int)] = l2 at *
      go_wp2
      go_roundw
      case rel => exact ⟨k + 1, l2, A4, c4, by omega, by rw [HQ.out]; go_num, rfl, by have := HQ.out; subst this; exact HP2, hll, D.out.1, D.out.2⟩
      case measure => simp [intOf]; omega
    · have hke : k = n := by omega
      subst hke
      have hki : ¬ (((k + 1 : Nat) : Int) ≤ (k : Int)) := by omega
      have D := Lib.hid (show New w (mem (fst k)) (.returned (.slice A l.length c)) wr by rw [← HP.out]; exact ⟨A, c, rfl, hown, hbel⟩)
      clear hown hbel HP
      go_wp2
      go_ret
      exact D.out

set_option maxRecDepth 100000 in
set_option maxHeartbeats 1600000 in
theorem specRes_any (A : Option Addr) (c : Nat) (F : List (List Int)) (n : Int) (w : World) (ha : ISS w A F) (hl : F.length ≤ 1048576) (hs : Short F 1048576) :
    Calls Tryz.prog 6 #[.slice A F.length c, .int .i64 n] w fun e w' => e = .returned (.int .i64 (resR F n)) ∧ Below w.heap.size w w' := by
  cases hb : fitB F n
  · have HF := Lib.hid hb
    have HB := Lib.hid (show resR F n = -1 by simp [resR, hb])
    clear hb
    go_enter Tryz.func6, Tryz.ntmps6
    go_wp2_with fail
    refine (l12Fits_any _ _ _ _ _ ha hl hs).mono ?_
    rintro e w1 ⟨he, hd1⟩
    rw [HF.out] at he
    subst he
    go_wp2
    go_ret
    exact ⟨ret_int HB.out.symm, hd1.below⟩
  · obtain ⟨hT, hn1, hn6, _⟩ := fitB_parts.1 hb
    obtain ⟨m, rfl⟩ := Int.eq_ofNat_of_zero_le (show 0 ≤ n by omega)
    have hm6 : m ≤ 6 := by omega
    have hfam : famOk F = true := by simp only [transOk, Bool.and_eq_true] at hT; exact hT.1
    have HF := Lib.hid hb
    have HB := Lib.hid (show resR F (m : Int) = (wst (msks F) m 64 : Int) - 1 by simp [resR, hb])
    have hN := fst_lt hm6
    have HS := Lib.hid (fun (k : Nat) (hk : k < 64) => subs_mem hk hN)
    have HM := Lib.hid (fun (k : Nat) (hk : k < 64) => minus_first hm6 hk)
    have HQ := Lib.hid (fun (k : Nat) => hasL_m hfam (andNot_lt (b := k) hN))
    have HW := Lib.hid (wst_le (msks F) m)
    have hNl := mem_len (fst m)
    have HBd := Lib.hid (show ∀ k, badB (msks F) (fst m) k = (sub k (fst m) && !hasQ (msks F) (andNot (fst m) k)) from fun _ => rfl)
    have HWs := Lib.hid (show ∀ k, wst (msks F) m (k + 1) = if badB (msks F) (fst m) k = true then min (wst (msks F) m k) (mem k).length else wst (msks F) m k from fun _ => rfl)
    have HF1 := Lib.hid (fun w => l12First_any m w hm6)
    clear hb hT hfam
    generalize msks F = K at *
    generalize fst m = N at *
    go_enter Tryz.func6, Tryz.ntmps6
    go_wp2_with fail
    refine (l12Fits_any _ _ _ _ _ ha hl hs).mono ?_
    rintro e w1 ⟨he, hd1⟩
    rw [HF.out] at he
    subst he
    have hb1 := hd1.below
    clear hd1
    go_wp2
    go_loopw [5, 6] (fun v i wr => ∃ (k : Nat) (x : Nat), k ≤ 64 ∧ i = .int .i64 k ∧ v = .int .i64 (x : Int) ∧ Hid (x = wst K m k) ∧ x ≤ 6 ∧ Below w.heap.size w wr) (fun _ i _ => 64 - (intOf i).toNat)
    case atStart => exact ⟨0, m, by omega, rfl, rfl, Lib.hid rfl, by omega, hb1⟩
    case round =>
      obtain ⟨k, x, hk, rfl, rfl, HX, hx6, hbel⟩ := hrel
      by_cases hlt : k < 64
      · go_wp2_with fail
        refine (l1Masks_any _).mono ?_
        rintro e w' ⟨rfl, rfl⟩
        go_wp2_with fail
        refine (l1OfMask_any k _ hlt).mono ?_
        rintro e w2 ⟨A2, c2, rfl, o2, b2⟩
        have i2 := (IL.of_own o2).1
        have hml := mem_len k
        have hb2 := below_step hbel b2
        clear o2 hbel b2
        go_wp2_with fail
        refine (HF1.out _).mono ?_
        rintro e w3 ⟨A3, c3, rfl, o3, b3⟩
        have i3 := (IL.of_own o3).1
        have i23 := i2.below b3
        have hb3 := below_step hb2 b3
        clear o3 b3 hb2 i2
        go_wp2_with fail
        refine (l1Subset_any _ _ _ _ _ _ _ i23 i3 (by omega) (by omega)).mono ?_
        rintro e w' ⟨he, rfl⟩
        rw [HS.out k hlt] at he
        cases hsk : sub k N
        · rw [hsk] at he
          subst he
          have HX2 := Lib.hid (show x = wst K m (k + 1) by rw [HWs.out, HBd.out, hsk, HX.out]; rfl)
          clear HX hsk i23 i3
          go_wp2
          go_roundw
          case rel => exact ⟨k + 1, x, by omega, by go_num, rfl, HX2, hx6, hb3⟩
          case measure => simp [intOf]; omega
        · rw [hsk] at he
          subst he
          go_wp2_with fail
          refine (HF1.out _).mono ?_
          rintro e w4 ⟨A4, c4, rfl, o4, b4⟩
          have i4 := (IL.of_own o4).1
          have i24 := i23.below b4
          have hb4 := below_step hb3 b4
          clear o4 b4 hb3 i23 i3
          go_wp2_with fail
          refine (specMinus_any _ _ _ _ _ _ _ i4 i24 (by omega) (by omega)).mono ?_
          rw [HM.out k hlt]
          rintro e w5 ⟨A5, c5, rfl, o5, b5⟩
          have i5 := (IL.of_own o5).1
          have hb5 := below_step hb4 b5
          have hal := mem_len (andNot N k)
          clear o5 b5 hb4 i4 i24
          go_wp2_with fail
          refine (l3Has_any _ _ _ _ _ _ _ (ha.below hb5) i5 hl hs (by omega)).mono ?_
          rintro e w' ⟨he, rfl⟩
          rw [HQ.out k] at he
          cases hqk : hasQ K (andNot N k)
          · rw [hqk] at he
            subst he
            have HX2 := Lib.hid (show min x (mem k).length = wst K m (k + 1) by rw [HWs.out, HBd.out, hsk, hqk, HX.out]; rfl)
            clear HX hsk hqk i5
            generalize (mem k).length = y at *
            have hmn : min (x : Int) (y : Int) = ((min x y : Nat) : Int) := by omega
            by_cases hxy : x ≤ y
            · have h1 : min x y = x := Nat.min_eq_left hxy
              have h2 : (x : Int) ≤ (y : Int) := by omega
              have h3 : ¬ ((y : Int) < (x : Int)) := by omega
              rw [h1] at HX2
              go_wp2
              go_roundw
              case rel => exact ⟨k + 1, x, by omega, by go_num, by simp <;> omega, HX2, hx6, hb5⟩
              case measure => simp [intOf]; omega
            · have h1 : min x y = y := Nat.min_eq_right (by omega)
              have h2 : ¬ ((x : Int) ≤ (y : Int)) := by omega
              have h3 : (y : Int) < (x : Int) := by omega
              rw [h1] at HX2
              go_wp2
              go_roundw
              case rel => exact ⟨k + 1, y, by omega, by go_num, by simp <;> omega, HX2, by omega, hb5⟩
              case measure => simp [intOf]; omega
          · rw [hqk] at he
            subst he
            have HX2 := Lib.hid (show x = wst K m (k + 1) by rw [HWs.out, HBd.out, hsk, hqk, HX.out]; rfl)
            clear HX hsk hqk i5
            go_wp2
            go_roundw
            case rel => exact ⟨k + 1, x, by omega, by go_num, rfl, HX2, hx6, hb5⟩
            case measure => simp [intOf]; omega
      · have hkl : k = 64 := by omega
        subst hkl
        have HX2 := Lib.hid (show (x : Int) - 1 = resR F (m : Int) by rw [HB.out, ← HX.out])
        clear HX
        go_wp2_with fail
        refine (l1Masks_any _).mono ?_
        rintro e w' ⟨rfl, rfl⟩
        go_wp2
        go_ret
        exact ⟨ret_int HX2.out, hbel⟩

end Go.Proofs.YtngacjfoldgjpaaGreatDoor
