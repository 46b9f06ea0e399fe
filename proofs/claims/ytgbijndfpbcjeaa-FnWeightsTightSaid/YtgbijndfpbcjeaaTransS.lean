/- Transversals, of the reference model and of the program, by their contracts. -/
import Derived.Test.YtgbijndfpbcjeaaBothS
import Derived.Test.YtgbijndfpbcjeaaWhereT
import Derived.Test.YtgbijndfpbcjeaaFam2
namespace Go.Proofs.Ytgbijndfpbcjeaa
open Go.RowKit

def hitsL (F : List (List Int)) (s : List Int) : Bool := F.all fun q => !((inter q s).length == 0)
theorem hitsL_take {F : List (List Int)} {k : Nat} {l s : List Int} (h : F[k]? = some l) : hitsL (F.take (k + 1)) s = (hitsL (F.take k) s && !((inter l s).length == 0)) := by
  simp [hitsL, List.take_add_one, h]
theorem hitsL_no {F : List (List Int)} {k : Nat} {l s : List Int} (h : F[k]? = some l) (h0 : (inter l s).length = 0) : hitsL F s = false := by
  rw [hitsL, List.all_eq_false]
  exact ⟨l, List.mem_of_getElem? h, by simp [h0]⟩
theorem inter_zero {a b : List Int} (ha : vld a = true) (hb : vld b = true) : ((inter a b).length = 0) ↔ msk a &&& msk b = 0 :=
  pair_of (P := fun a b => ((inter a b).length = 0) ↔ msk a &&& msk b = 0) (by decide +kernel) ha hb
theorem hitsL_eq {F : List (List Int)} (hF : allV F) {s : Nat} (hs : s < 64) : hitsL F (mem s) = hitsQ (msks F) s := by
  unfold hitsL hitsQ msks
  rw [List.all_map]
  induction F with
  | nil => rfl
  | cons a F ih =>
    simp only [List.all_cons, Function.comp]
    rw [ih (fun l hl => hF l (by simp [hl]))]
    congr 2
    have h1 := inter_zero (hF a (by simp)) (vld_mem hs)
    rw [msk_mem hs] at h1
    rw [Bool.eq_iff_iff, beq_iff_eq, beq_iff_eq]
    exact h1

set_option maxRecDepth 100000 in
set_option maxHeartbeats 800000 in
theorem l3Hits_any (A B : Option Addr) (c d : Nat) (F : List (List Int)) (s : List Int) (w : World) (ha : ISS w A F) (hb : IL w B s) (hl : F.length ≤ 1048576) (hs : Short F 1048576) (hls : s.length ≤ 1048576) :
    Calls Try.prog 69 #[.slice A F.length c, .slice B s.length d] w fun e w' => e = .returned (.bool (hitsL F s)) ∧ Below w.heap.size w w' := by
  go_enter Try.func69, Try.ntmps69
  go_wp2
  go_loopw [5] (fun i wr => ∃ k : Nat, k ≤ F.length ∧ i = .int .i64 k ∧ Hid (hitsL (F.take k) s = true) ∧ Below w.heap.size w wr) (fun i _ => F.length - (intOf i).toNat)
  case atStart => exact ⟨0, Nat.zero_le _, rfl, (by show _ = _; simp [hitsL]), Below.refl _ _⟩
  case round =>
    obtain ⟨k, hk, rfl, hyes, hbel⟩ := hrel
    by_cases hlt : k < F.length
    · obtain ⟨b, off, l, B', d', rfl, hx, hc, hil⟩ := (ha.below hbel).at_ hlt
      have hll := hs.at_ hx
      have hbb := hb.below hbel
      have hki : (0 : Int) ≤ (k : Int) := by omega
      have hki2 : (k : Int) < (F.length : Int) := by omega
      by_cases h0 : (inter l s).length = 0
      · have H := Lib.hid (hitsL_no hx h0)
        have h0b : (((inter l s).length : Int) == 0) = true := by simp [h0]
        clear hx hyes h0
        go_wp2_with fail
        refine (l1Intersect_any _ _ _ _ _ _ _ hil hbb hll hls).mono ?_
        rintro e w1 ⟨A1, c1, rfl, o1, b1⟩
        clear o1
        have hb1 := below_step hbel b1
        go_wp2
        go_ret
        exact ⟨ret_bool H.out.symm, hb1⟩
      · have H := Lib.hid (show hitsL (F.take (k + 1)) s = true by rw [hitsL_take hx, hyes.out]; simp [h0])
        have h0b : (((inter l s).length : Int) == 0) = false := beq_eq_false_iff_ne.2 (by omega)
        clear hx hyes h0
        go_wp2_with fail
        refine (l1Intersect_any _ _ _ _ _ _ _ hil hbb hll hls).mono ?_
        rintro e w1 ⟨A1, c1, rfl, o1, b1⟩
        clear o1
        have hb1 := below_step hbel b1
        go_wp2
        go_roundw
        case rel => exact ⟨k + 1, by omega, by go_num, H.out, hb1⟩
        case measure => simp [intOf]; omega
    · have hkl : k = F.length := by omega
      subst hkl
      have H := Lib.hid (show hitsL F s = true by have := hyes.out; rwa [List.take_length] at this)
      clear hyes
      go_wp2
      go_ret
      exact ⟨ret_bool H.out.symm, hbel⟩

def transOk (F : List (List Int)) : Bool := famOk F && decide (0 < F.length)
def transM (F : List (List Int)) : List Nat := trs (msks F)
/-- The sets of masks that have come, of which p is true. -/
theorem mems_range_yes {p : Nat → Bool} {k : Nat} (h : p k = true) : mems ((List.range (k + 1)).filter p) = mems ((List.range k).filter p) ++ [mem k] := by rw [range_yes h]; simp [mems]
theorem mems_range_no {p : Nat → Bool} {k : Nat} (h : p k = false) : mems ((List.range (k + 1)).filter p) = mems ((List.range k).filter p) := by rw [range_no h]
theorem msks_filter (p : Nat → Bool) : msks (mems ((List.range 64).filter p)) = (List.range 64).filter p := msks_mems fun _ hq => List.mem_range.1 (List.mem_filter.1 hq).1
theorem filter_allV (p : Nat → Bool) : allV (mems ((List.range 64).filter p)) := mems_allV fun _ hq => List.mem_range.1 (List.mem_filter.1 hq).1

set_option maxRecDepth 100000 in
set_option maxHeartbeats 1600000 in
theorem specTrans_any (A : Option Addr) (c : Nat) (F : List (List Int)) (w : World) (ha : ISS w A F) (hl : F.length ≤ 1048576) (hs : Short F 1048576) :
    Calls Try.prog 25 #[.slice A F.length c] w (NewSS2 w (outM (transM F) (transOk F)) (transOk F)) := by
  obtain ⟨i0, hi0, hz0, hz1, hz2⟩ := info_parts slice_info
  cases hf : famOk F
  · have HF := Lib.hid hf
    have HB := Lib.hid (show transOk F = false by simp [transOk, hf])
    clear hf
    go_enter Try.func25, Try.ntmps25
    go_wp2_with fail
    refine (specFam_any _ _ _ _ ha hl hs).mono ?_
    rintro e w1 ⟨he, hd1⟩
    rw [HF.out] at he
    subst he
    go_wp2
    go_ret2
    rw [HB.out, outM]
    exact NewSS2.made hd1.below
  · by_cases h0 : F.length = 0
    · have HF := Lib.hid hf
      have HB := Lib.hid (show transOk F = false by simp [transOk, h0])
      have h0b : ((F.length : Int) == 0) = true := by simp [h0]
      clear hf h0
      go_enter Try.func25, Try.ntmps25
      go_wp2_with fail
      refine (specFam_any _ _ _ _ ha hl hs).mono ?_
      rintro e w1 ⟨he, hd1⟩
      rw [HF.out] at he
      subst he
      go_wp2
      go_ret2
      rw [HB.out, outM]
      exact NewSS2.made hd1.below
    · have HF := Lib.hid hf
      have HB := Lib.hid (show transOk F = true by simp [transOk, hf]; omega)
      have h0b : ((F.length : Int) == 0) = false := beq_eq_false_iff_ne.2 (by omega)
      have HP := Lib.hid (fun k (hk : k < 64) => hitsL_eq (famOk_allV hf) hk)
      clear hf h0
      obtain ⟨p, hp⟩ : ∃ p, p = hitsQ (msks F) := ⟨_, rfl⟩
      have HT := Lib.hid (show (List.range 64).filter p = transM F by rw [hp]; rfl)
      rw [← hp] at HP
      have HPP := Lib.hid hp
      clear hp
      go_enter Try.func25, Try.ntmps25
      go_wp2_with fail
      refine (specFam_any _ _ _ _ ha hl hs).mono ?_
      rintro e w1 ⟨he, hd1⟩
      rw [HF.out] at he
      subst he
      have hb1 := hd1.below
      clear hd1
      have h00 : (w1.alloc (.cells #[] 28)).ownsRow w.heap.size 28 1 (.slice (some ⟨w1.heap.size, 0, none⟩) 0 0) 0 [] := World.ownsRow_made w1 #[] 0 hb1.size (by unfold maxLen; omega) (by simp)
      have H00 := Lib.hid (And.intro h00 (hb1.alloc hb1.size (.cells #[] 28)))
      clear h00 hb1
      go_wp2
      go_loopw [4, 5] (fun v i wr => ∃ (k : Nat) (rs : List Value) (A5 : Option Addr) (c5 : Nat), k ≤ 64 ∧ i = .int .i64 k ∧ v = .slice A5 rs.length c5 ∧ rs.length ≤ k ∧ wr.ownsRow w.heap.size 28 1 (.slice A5 rs.length c5) rs.length rs ∧ Hid (Rws wr w.heap.size wr.heap.size (mems ((List.range k).filter p)) rs) ∧ Below w.heap.size w wr) (fun _ i _ => 64 - (intOf i).toNat)
      case atStart => exact ⟨0, [], _, _, by omega, rfl, rfl, by simp, H00.out.1, Rws.nil _ _ _, H00.out.2⟩
      case round =>
        clear H00
        obtain ⟨k, rs, A5, c5, hk, rfl, rfl, hrl, hown, hrows, hbel⟩ := hrel
        by_cases hlt : k < 64
        · go_wp2_with fail
          refine (l1Masks_any _).mono ?_
          rintro e w' ⟨rfl, rfl⟩
          go_wp2_with fail
          refine (l1OfMask_any k _ hlt).mono ?_
          rintro e w2 ⟨A2, c2, rfl, o2, b2⟩
          have hil2 := (IL.of_own o2).1
          have hml := mem_len k
          have hb2 := below_step hbel b2
          clear o2
          go_wp2_with fail
          refine (l3Hits_any _ _ _ _ _ _ _ (ha.below hb2) hil2 hl hs (by omega)).mono ?_
          rintro e w3 ⟨he, b3⟩
          have b23 := below_step b2 b3
          have hown3 := own_at hown (w' := w3) fun g hg => b23.block g (hown.lt g hg).2
          have HR3 := Lib.hid (hrows.out.below (Nat.le_refl _) b23)
          have hb3 := below_step hbel b23
          have hq : w.heap.size ≤ wr.heap.size ∧ wr.heap.size ≤ w3.heap.size := ⟨hbel.size, b23.size⟩
          clear hown hrows hb2 b2 b3 hil2
          have HE := HP.out k hlt
          cases hpk : p k
          · rw [HE, hpk] at he
            subst he
            have R := Lib.hid (show w3.ownsRow w.heap.size 28 1 (.slice A5 rs.length c5) rs.length rs ∧ Rws w3 w.heap.size w3.heap.size (mems ((List.range (k + 1)).filter p)) rs ∧ Below w.heap.size w w3 by
              refine ⟨hown3, ?_, hb3⟩
              rw [mems_range_no hpk]
              exact Rws.hi_le HR3.out hq.2 (Nat.le_refl _))
            clear hown3 HR3 hb3 b23 hbel hpk HE
            go_wp2
            go_roundw
            case rel => exact ⟨k + 1, rs, A5, c5, by omega, by go_num, rfl, by omega, R.out.1, R.out.2.1, R.out.2.2⟩
            case measure => simp [intOf]; omega
          · rw [HE, hpk] at he
            subst he
            have HPK := Lib.hid hpk
            clear hpk HE hbel b23
            have HR3' := Lib.hid (Rws.hi_le HR3.out hq.2 (Nat.le_refl _))
            clear HR3
            go_wp2_with fail
            refine (l1OfMask_any k _ hlt).mono ?_
            rintro e w4 ⟨A4, c4, rfl, o4, b4⟩
            have hown4 := own_at hown3 (w' := w4) fun g hg => b4.block g (hown3.lt g hg).2
            have hb4 := below_step hb3 b4
            have HR4 := Lib.hid (And.intro (HR3'.out.below (Nat.le_refl _) b4) (show RowAt w4 w3.heap.size w4.heap.size (mem k) (.slice A4 (mem k).length c4) from ⟨_, _, rfl, Own.of_new o4⟩))
            have hq4 : w.heap.size ≤ w3.heap.size ∧ w3.heap.size ≤ w4.heap.size := ⟨by omega, b4.size⟩
            clear hown3 HR3' hb3 b4 o4
            go_wp2_with (at_builtin; refine wpList_append_own _ rfl (.tmp 25) (.tmp 28) 23 rfl w.heap.size 28 i0 (.slice none 0 0) 1 24 Try.underlying23 hi0 hz0 hz1 hz2 rfl (by decide) _ _ _ rfl (hown4.alloc _) ⟨w4.heap.size, 0, none⟩ 1 1 [.slice A4 (mem k).length c4] rfl rfl (cell_one_new _ _ _) (slice_oneCell _ _ _) (by unfold maxLen; omega) (by omega) (by simp; omega) ?_)
            intro v5 w5 hown5 hgrow5 _
            have R := Lib.hid (show ∃ rs' A6 c6, v5 = Value.slice A6 (List.length rs') c6 ∧ rs'.length = rs.length + 1 ∧ w5.ownsRow w.heap.size 28 1 (.slice A6 (List.length rs') c6) (List.length rs') rs' ∧ Rws w5 w.heap.size w5.heap.size (mems ((List.range (k + 1)).filter p)) rs' ∧ Below w.heap.size w w5 by
              have h3 : w5.ownsRow w.heap.size 28 1 v5 (rs ++ [Value.slice A4 (mem k).length c4]).length (rs ++ [Value.slice A4 (mem k).length c4]) := by simpa using hown5
              obtain ⟨A6, c6, h4⟩ := own_slice h3
              refine ⟨_, A6, c6, h4, by simp, by rw [← h4]; exact h3, ?_, app_gen hown4 (Nat.le_refl _) hb4 hgrow5⟩
              rw [mems_range_yes HPK.out]
              exact rows_app HR4.out.1 HR4.out.2 (Nat.le_refl _) hq4.1 hq4.2 hown4 hgrow5)
            obtain ⟨rs', A6, c6, rfl, hrl', R2⟩ := R.out
            have HR2 := Lib.hid R2
            clear R R2 hown5 hgrow5 hown4 HR4 hb4
            go_wp2
            go_roundw
            case rel => exact ⟨k + 1, rs', A6, c6, by omega, by go_num, rfl, by omega, HR2.out.1, HR2.out.2.1, HR2.out.2.2⟩
            case measure => simp [intOf]; omega
        · have hkl : k = 64 := by omega
          subst hkl
          have h1 := hrows.out
          have hrl2 : rs.length = (mems ((List.range 64).filter p)).length := h1.1
          have hiss : ISS wr A5 (mems ((List.range 64).filter p)) := by
            rw [hrl2] at hown
            exact h1.iss hown fun _ _ h => h
          rw [hrl2]
          have HV := Lib.hid (filter_allV p)
          have HM := Lib.hid (msks_filter p)
          have hsh := mems_short ((List.range 64).filter p) 1048576 (by omega)
          have hlen : (mems ((List.range 64).filter p)).length ≤ 1048576 := by omega
          clear hown hrows h1 hrl2
          generalize mems ((List.range 64).filter p) = U at *
          go_wp2_with fail
          refine (l1Masks_any _).mono ?_
          rintro e w' ⟨rfl, rfl⟩
          go_wp2_with fail
          refine (l3Min_any _ _ _ _ hiss hlen hsh HV.out).mono ?_
          rintro e w5 ⟨A7, c7, rfl, o7, b7⟩
          have HR := Lib.hid (show NewSS2 w (outM (transM F) (transOk F)) (transOk F) (.returned (.tuple #[.slice A7 (mems (mins (msks U))).length c7, .bool true])) w5 by
            rw [HM.out, HT.out] at *
            rw [HB.out, outM]
            exact ⟨A7, c7, rfl, o7.base hbel.size, below_step hbel b7⟩)
          clear o7 b7
          go_wp2
          go_ret2
          exact HR.out

set_option maxRecDepth 100000 in
set_option maxHeartbeats 1600000 in
theorem implTrans_any (A : Option Addr) (c : Nat) (F : List (List Int)) (w : World) (ha : ISS w A F) (hl : F.length ≤ 1048576) (hs : Short F 1048576) :
    Calls Try.prog 23 #[.slice A F.length c] w (NewSS2 w (outM (transM F) (transOk F)) (transOk F)) := by
  go_enter Try.func23, Try.ntmps23
  go_wp2_with fail
  refine (familyOf_any _ _ _ _ ha hl hs).mono ?_
  rintro e w1 ⟨b1, ⟨hf, rfl⟩ | ⟨hf, A1, c1, rfl, o1⟩⟩
  · have HB := Lib.hid (show transOk F = false by simp [transOk, hf])
    clear hf
    go_wp2
    go_ret2
    rw [HB.out, outM]
    exact NewSS2.nil b1
  · have hml : (msks F).length = F.length := by simp [msks]
    obtain ⟨hm1, hl1⟩ := fam_bits hf
    have hib := (IB.of_own o1).1
    by_cases h0 : F.length = 0
    · have HB := Lib.hid (show transOk F = false by simp [transOk, h0])
      have h0b : (((msks F).length : Int) == 0) = true := by simp [hml, h0]
      clear hf h0 hml o1 hib
      generalize msks F = K at *
      go_wp2
      go_ret2
      rw [HB.out, outM]
      exact NewSS2.nil b1
    · have HB := Lib.hid (show transOk F = true by simp [transOk, hf]; omega)
      have h0b : (((msks F).length : Int) == 0) = false := beq_eq_false_iff_ne.2 (by omega)
      have HT : Hid (transM F = trs (msks F)) := Lib.hid rfl
      clear hf h0 hml o1
      generalize msks F = K at *
      generalize transM F = M at *
      go_wp2_with fail
      refine (whereT A1 c1 K _ hib (by omega) hm1).mono ?_
      rintro e w2 ⟨A3, c3, rfl, o3, b3⟩
      have hib3 := (IB.of_own o3).1
      have HT2 : Hid ((List.range 64).filter (hitsQ K) = M) := Lib.hid HT.out.symm
      rw [HT2.out] at hib3 ⊢
      have hmn := mins_len M
      have hmm := mins_lt M
      have hb3 := below_step b1 b3
      clear o3 b3
      go_wp2_with fail
      refine (lists_any A3 c3 _ _ hib3 hmm (by omega)).mono ?_
      rintro e w3 ⟨A4, c4, rfl, o4, b4⟩
      have HR := Lib.hid (show NewSS2 w (outM M (transOk F)) (transOk F) (.returned (.tuple #[.slice A4 (mems (mins M)).length c4, .bool true])) w3 by
        rw [HB.out, outM]
        exact ⟨A4, c4, rfl, o4.base hb3.size, below_step hb3 b4⟩)
      clear o4 b4 hib3 hb3
      go_wp2
      go_ret2
      exact HR.out
end Go.Proofs.Ytgbijndfpbcjeaa
