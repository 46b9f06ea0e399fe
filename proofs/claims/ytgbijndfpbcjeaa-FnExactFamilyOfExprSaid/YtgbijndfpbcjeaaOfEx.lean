/- The quorums of an expression, of the reference model and of the program, by their contracts. -/
import Derived.Test.YtgbijndfpbcjeaaWhereM
import Derived.Test.YtgbijndfpbcjeaaWhereN
import Derived.Test.YtgbijndfpbcjeaaTransS
namespace Go.Proofs.Ytgbijndfpbcjeaa
open Go.RowKit

set_option maxRecDepth 100000 in
set_option maxHeartbeats 1600000 in
theorem l3OfExpr_any (T : ByteArray) (x : Ex) (w : World) (hp : pT0 T = some x) :
    Calls Try.prog 62 #[.string T] w (NewSS w (mems (mins (satL' x)))) := by
  obtain ⟨i0, hi0, hz0, hz1, hz2⟩ := info_parts slice_info
  obtain ⟨hx, hw, hxl⟩ := bx_of hp
  have HD := Lib.hid (fun (s : Nat) (hs : s < 64) (A : Option Addr) (c : Nat) (w' : World) (h : IL w' A (mem s)) => l2Sat_any s hs A c 40 x w' hxl (by omega) hw h)
  rw [← hx] at HD
  obtain ⟨p, hpp⟩ : ∃ p, p = satF x := ⟨_, rfl⟩
  have HT := Lib.hid (show (List.range 64).filter p = satL' x by rw [hpp]; rfl)
  have HP := Lib.hid (show ∀ k, p k = sat k x by intro k; rw [hpp]; rfl)
  clear hpp hp hx hw hxl
  have h00 : (w.alloc (.cells #[] 28)).ownsRow w.heap.size 28 1 (.slice (some ⟨w.heap.size, 0, none⟩) 0 0) 0 [] := World.ownsRow_made w #[] 0 (Nat.le_refl _) (by unfold maxLen; omega) (by simp)
  have hb00 : Below w.heap.size w (w.alloc (.cells #[] 28)) := (Below.refl _ w).alloc (Nat.le_refl _) _
  have H00 := Lib.hid (And.intro h00 hb00)
  clear h00 hb00
  go_enter Try.func62, Try.ntmps62
  go_wp2
  go_loopw [3, 4] (fun v i wr => ∃ (k : Nat) (rs : List Value) (A5 : Option Addr) (c5 : Nat), k ≤ 64 ∧ i = .int .i64 k ∧ v = .slice A5 rs.length c5 ∧ rs.length ≤ k ∧ wr.ownsRow w.heap.size 28 1 (.slice A5 rs.length c5) rs.length rs ∧ Hid (Rws wr w.heap.size wr.heap.size (mems ((List.range k).filter p)) rs) ∧ Below w.heap.size w wr) (fun _ i _ => 64 - (intOf i).toNat)
  case atStart => exact ⟨0, [], _, _, by omega, rfl, rfl, by simp, H00.out.1, Rws.nil _ _ _, H00.out.2⟩
  case round =>
    clear H00
    obtain ⟨k, rs, A5, c5, hk, rfl, rfl, hrl, hown, hrows, hbel⟩ := hrel
    by_cases hlt : k < 64
    · go_wp2_with fail
      refine (l1Masks_any _).mono ?_
      rintro e w' ⟨rfl, rfl⟩
      go_wp2_with fail
      refine (l1OfMask_any k _ hlt).mono ?_
      rintro e w2 ⟨A2, c2, rfl, o2, b2⟩
      have hil2 := (IL.of_own o2).1
      have hml := mem_len k
      have HO2 := Lib.hid (Own.of_new o2)
      clear o2
      go_wp2_with fail
      refine (HD.out k hlt A2 c2 _ hil2).mono ?_
      rintro e w3 ⟨he, b3⟩
      have b23 := below_step b2 b3
      have hown3 := own_at hown (w' := w3) fun g hg => b23.block g (hown.lt g hg).2
      have HR3 := Lib.hid (hrows.out.below (Nat.le_refl _) b23)
      have HX3 := Lib.hid (show RowAt w3 wr.heap.size w2.heap.size (mem k) (.slice A2 (mem k).length c2) from ⟨_, _, rfl, HO2.out.below b3⟩)
      have hb3 := below_step hbel b23
      have hq : w.heap.size ≤ wr.heap.size ∧ wr.heap.size ≤ w2.heap.size ∧ w2.heap.size ≤ w3.heap.size := ⟨hbel.size, b2.size, b3.size⟩
      clear hown hrows b2 b3 hil2 HO2
      have HE := HP.out k
      rw [← HE] at he
      cases hpk : p k
      · rw [hpk] at he
        subst he
        have R := Lib.hid (show w3.ownsRow w.heap.size 28 1 (.slice A5 rs.length c5) rs.length rs ∧ Rws w3 w.heap.size w3.heap.size (mems ((List.range (k + 1)).filter p)) rs ∧ Below w.heap.size w w3 by
          refine ⟨hown3, ?_, hb3⟩
          rw [mems_range_no hpk]
          exact Rws.hi_le HR3.out (by omega) (Nat.le_refl _))
        clear hown3 HR3 hb3 b23 hbel hpk HE HX3
        go_wp2
        go_roundw
        case rel => exact ⟨k + 1, rs, A5, c5, by omega, by go_num, rfl, by omega, R.out.1, R.out.2.1, R.out.2.2⟩
        case measure => simp [intOf]; omega
      · rw [hpk] at he
        subst he
        have HPK := Lib.hid hpk
        clear hpk HE hbel b23
        go_wp2_with (at_builtin; refine wpList_append_own _ rfl (.tmp 17) (.tmp 19) 23 rfl w.heap.size 28 i0 (.slice none 0 0) 1 24 Try.underlying23 hi0 hz0 hz1 hz2 rfl (by decide) _ _ _ rfl (hown3.alloc _) ⟨w3.heap.size, 0, none⟩ 1 1 [.slice A2 (mem k).length c2] rfl rfl (cell_one_new _ _ _) (slice_oneCell _ _ _) (by unfold maxLen; omega) (by omega) (by simp; omega) ?_)
        intro v5 w5 hown5 hgrow5 _
        have R := Lib.hid (show ∃ rs' A6 c6, v5 = Value.slice A6 (List.length rs') c6 ∧ rs'.length = rs.length + 1 ∧ w5.ownsRow w.heap.size 28 1 (.slice A6 (List.length rs') c6) (List.length rs') rs' ∧ Rws w5 w.heap.size w5.heap.size (mems ((List.range (k + 1)).filter p)) rs' ∧ Below w.heap.size w w5 by
          have h3 : w5.ownsRow w.heap.size 28 1 v5 (rs ++ [Value.slice A2 (mem k).length c2]).length (rs ++ [Value.slice A2 (mem k).length c2]) := by simpa using hown5
          obtain ⟨A6, c6, h4⟩ := own_slice h3
          refine ⟨_, A6, c6, h4, by simp, by rw [← h4]; exact h3, ?_, app_gen hown3 (Nat.le_refl _) hb3 hgrow5⟩
          rw [mems_range_yes HPK.out]
          exact rows_app HR3.out HX3.out (Nat.le_refl _) hq.1 hq.2.1 hown3 hgrow5)
        obtain ⟨rs', A6, c6, rfl, hrl', R2⟩ := R.out
        have HR2 := Lib.hid R2
        clear R R2 hown5 hgrow5 hown3 HR3 HX3 hb3
        go_wp2
        go_roundw
        case rel => exact ⟨k + 1, rs', A6, c6, by omega, by go_num, rfl, by omega, HR2.out.1, HR2.out.2.1, HR2.out.2.2⟩
        case measure => simp [intOf]; omega
    · have hkl : k = 64 := by omega
      subst hkl
      have h1 := hrows.out
      have hrl2 : rs.length = (mems ((List.range 64).filter p)).length := h1.1
      have hiss : ISS wr A5 (mems ((List.range 64).filter p)) := by
        rw [hrl2] at hown
        exact h1.iss hown fun _ _ h => h
      rw [hrl2]
      have HV := Lib.hid (filter_allV p)
      have HM := Lib.hid (msks_filter p)
      have hsh := mems_short ((List.range 64).filter p) 1048576 (by omega)
      have hlen : (mems ((List.range 64).filter p)).length ≤ 1048576 := by omega
      clear hown hrows h1 hrl2
      generalize mems ((List.range 64).filter p) = U at *
      go_wp2_with fail
      refine (l1Masks_any _).mono ?_
      rintro e w' ⟨rfl, rfl⟩
      go_wp2_with fail
      refine (l3Min_any _ _ _ _ hiss hlen hsh HV.out).mono ?_
      rintro e w5 ⟨A7, c7, rfl, o7, b7⟩
      have HR := Lib.hid (show NewSS w (mems (mins (satL' x))) (.returned (.slice A7 (mems (mins (msks U))).length c7)) w5 by
        rw [HM.out, HT.out] at *
        exact ⟨A7, c7, rfl, o7.base hbel.size, below_step hbel b7⟩)
      clear o7 b7
      go_wp2
      go_ret
      exact HR.out

theorem expM_some {T : ByteArray} {x : Ex} (h : pT0 T = some x) : expM T = satL' x := by unfold expM; rw [h]
theorem okX_none {T : ByteArray} (h : pT0 T = none) : okX T = false := by simp [okX, h]
theorem okX_some {T : ByteArray} {x : Ex} (h : pT0 T = some x) : okX T = true := by simp [okX, h]

set_option maxRecDepth 100000 in
set_option maxHeartbeats 1600000 in
theorem specOfEx_any (T : ByteArray) (w : World) (hT : T.size ≤ 1048576) :
    Calls Try.prog 20 #[.string T] w (NewSS2 w (outM (expM T) (okX T)) (okX T)) := by
  cases hp : pT0 T with
  | none =>
    have HC := Lib.hid (spec_no T w hT hp)
    have HB := Lib.hid (okX_none hp)
    clear hp
    go_enter Try.func20, Try.ntmps20
    go_wp2_with fail
    refine HC.out.mono ?_
    rintro e w' ⟨rfl, rfl⟩
    go_wp2
    go_ret2
    rw [HB.out, outM]
    exact NewSS2.made (Below.refl _ _)
  | some x =>
    have HC := Lib.hid (spec_yes T w hT hp)
    have HB := Lib.hid (okX_some hp)
    have HE := Lib.hid (expM_some hp)
    have HL := Lib.hid (fun w => l3OfExpr_any T x w hp)
    clear hp
    go_enter Try.func20, Try.ntmps20
    go_wp2_with fail
    refine HC.out.mono ?_
    rintro e w' ⟨rfl, rfl⟩
    clear HC
    go_wp2_with fail
    refine (HL.out _).mono ?_
    rintro e w1 ⟨A1, c1, rfl, o1, b1⟩
    have HR := Lib.hid (show NewSS2 w (outM (expM T) (okX T)) (okX T) (.returned (.tuple #[.slice A1 (mems (mins (satL' x))).length c1, .bool true])) w1 by
      rw [HB.out, outM, HE.out]
      exact ⟨A1, c1, rfl, o1, b1⟩)
    clear o1 b1 HL
    go_wp2
    go_ret2
    exact HR.out

set_option maxRecDepth 100000 in
set_option maxHeartbeats 1600000 in
theorem implOfEx_any (T : ByteArray) (w : World) (hT : T.size ≤ 1048576) :
    Calls Try.prog 21 #[.string T] w (NewSS2 w (outM (expM T) (okX T)) (okX T)) := by
  go_enter Try.func21, Try.ntmps21
  go_wp2_with fail
  refine (parse_any T w hT).mono ?_
  rintro e w1 ⟨b1, ⟨hn, rfl⟩ | ⟨x, v, hp, rfl, ht⟩⟩
  · have HB := Lib.hid (okX_none hn)
    clear hn
    go_wp2
    go_ret2
    rw [HB.out, outM]
    exact NewSS2.nil b1
  · have HB := Lib.hid (okX_some hp)
    have HE := Lib.hid (expM_some hp)
    obtain ⟨_, hw, hxl⟩ := bx_of hp
    clear hp
    cases x with
    | mem m =>
      have ht' := ht
      simp only [Tr] at ht'
      obtain ⟨b, rfl, _, _⟩ := ht'
      have HW : Hid ((List.range 64).filter (satF (.mem m)) = expM T) := Lib.hid HE.out.symm
      have HC := Lib.hid (whereM m b _ w1 hw ht)
      clear ht hw hxl HE
      generalize expM T = M at *
      rw [HW.out] at HC
      go_wp2_with fail
      refine HC.out.mono ?_
      rintro e w2 ⟨A3, c3, rfl, o3, b3⟩
      have hib := (IB.of_own o3).1
      have hmn := mins_len M
      have hmm := mins_lt M
      have hb3 := below_step b1 b3
      clear o3 b3 HC
      go_wp2_with fail
      refine (lists_any A3 c3 _ _ hib hmm (by omega)).mono ?_
      rintro e w6 ⟨A4, c4, rfl, o4, b6⟩
      have HR := Lib.hid (show NewSS2 w (outM M (okX T)) (okX T) (.returned (.tuple #[.slice A4 (mems (mins M)).length c4, .bool true])) w6 by
        rw [HB.out, outM]
        exact ⟨A4, c4, rfl, o4.base hb3.size, below_step hb3 b6⟩)
      clear o4 b6 hib hb3
      go_wp2
      go_ret2
      exact HR.out
    | thr k es =>
      have ht' := ht
      simp only [Tr] at ht'
      obtain ⟨b, _, _, _, rfl, _⟩ := ht'
      have HW : Hid ((List.range 64).filter (satF (.thr k es)) = expM T) := Lib.hid HE.out.symm
      have HC := Lib.hid (whereN k es b _ w1 hw hxl ht)
      clear ht hw hxl HE
      generalize expM T = M at *
      rw [HW.out] at HC
      go_wp2_with fail
      refine HC.out.mono ?_
      rintro e w2 ⟨A3, c3, rfl, o3, b3⟩
      have hib := (IB.of_own o3).1
      have hmn := mins_len M
      have hmm := mins_lt M
      have hb3 := below_step b1 b3
      clear o3 b3 HC
      go_wp2_with fail
      refine (lists_any A3 c3 _ _ hib hmm (by omega)).mono ?_
      rintro e w6 ⟨A4, c4, rfl, o4, b6⟩
      have HR := Lib.hid (show NewSS2 w (outM M (okX T)) (okX T) (.returned (.tuple #[.slice A4 (mems (mins M)).length c4, .bool true])) w6 by
        rw [HB.out, outM]
        exact ⟨A4, c4, rfl, o4.base hb3.size, below_step hb3 b6⟩)
      clear o4 b6 hib hb3
      go_wp2
      go_ret2
      exact HR.out
end Go.Proofs.Ytgbijndfpbcjeaa
