/- Duals of trees and their texts; plain facts, no program. -/
import Derived.Test.YtnfaihgnggmpkaaGe
import Derived.Lib.Join
import Derived.Test.YtnfaihgnggmpkaaGa
import Derived.Test.YtnfaihgnggmpkaaGd
namespace Go.Proofs.Ytnfaihgnggmpkaa

mutual
theorem dual_len : (e : Ex) → wf e → (tx (dual e)).length = (tx e).length
  | .mem m, _ => by simp [dual]
  | .thr k es, h => by simp only [wf] at h; have := dualL_txlen es h.2.2.2; simp only [dual, tx, List.length_cons]; omega
theorem dualL_txlen : (es : List Ex) → wfL es → (txL (dualL es)).length = (txL es).length ∧ (txT (dualL es)).length = (txT es).length
  | [], _ => by simp [dualL]
  | e :: es, h => by
    simp only [wfL] at h
    have h1 := dual_len e h.1
    have h2 := dualL_txlen es h.2
    simp only [dualL, txT_cons, txL_cons, List.length_append, List.length_cons]
    omega
end
mutual
theorem dual_wf : (e : Ex) → wf e → wf (dual e)
  | .mem m, h => by simpa [dual] using h
  | .thr k es, h => by
    simp only [wf] at h
    have h1 := dualL_wf es h.2.2.2
    have h2 := dualL_len es
    simp only [dual, wf]
    exact ⟨by omega, by omega, by omega, h1⟩
theorem dualL_wf : (es : List Ex) → wfL es → wfL (dualL es)
  | [], _ => by simp [dualL, wfL]
  | e :: es, h => by simp only [wfL] at h; simp only [dualL, wfL]; exact ⟨dual_wf e h.1, dualL_wf es h.2⟩
end
mutual
theorem dual_dual : (e : Ex) → wf e → dual (dual e) = e
  | .mem m, _ => by simp [dual]
  | .thr k es, h => by
    simp only [wf] at h
    have h1 := dualL_dualL es h.2.2.2
    have h2 := dualL_len es
    simp only [dual, h1, h2]
    congr 1
    omega
theorem dualL_dualL : (es : List Ex) → wfL es → dualL (dualL es) = es
  | [], _ => by simp [dualL]
  | e :: es, h => by simp only [wfL] at h; simp only [dualL, dual_dual e h.1, dualL_dualL es h.2]
end
/-- What is still to be written behind j operands. -/
def rest (ds : List Ex) (j : Nat) : List UInt8 := if j = 0 then txL ds else txT (ds.drop j)
theorem rest_step {ds : List Ex} {j : Nat} {d : Ex} (h : ds[j]? = some d) : rest ds j = (if j = 0 then [] else [44]) ++ tx d ++ rest ds (j + 1) := by
  unfold rest
  rw [if_neg (by omega : ¬ j + 1 = 0)]
  by_cases h0 : j = 0
  · subst h0
    rw [if_pos rfl, if_pos rfl]
    have := drop_c h
    rw [List.drop_zero] at this
    rw [this, txL_cons]
    simp
  · rw [if_neg h0, if_neg h0, drop_c h, txT_cons, txL_cons]
    simp
theorem rest_end {ds : List Ex} (h : 1 ≤ ds.length) : rest ds ds.length = [41] := by
  unfold rest
  rw [if_neg (by omega), List.drop_length, txT_nil]
theorem join_tx (es : List Ex) (h : es ≠ []) : Lib.join (es.map tx) [44] ++ [41] = txL es := by
  cases es with
  | nil => exact absurd rfl h
  | cons e es =>
    rw [List.map_cons, Lib.join_cons, txL_cons]
    have : ∀ es : List Ex, Lib.joinTail [44] (es.map tx) ++ [41] = txT es := by
      intro es
      induction es with
      | nil => simp [Lib.joinTail, txT]
      | cons e es ih =>
        rw [txT_cons, txL_cons, ← ih]
        simp [Lib.joinTail]
    rw [List.append_assoc, this]
theorem data_app0 (a b : ByteArray) : (a ++ b).data.toList = a.data.toList ++ b.data.toList := by simp [ByteArray.data_append]
theorem dig_dg (n : Nat) : dig (n : Int) = [dg n] := by simp [dig, dg]
theorem txL_le {es : List Ex} {k : Nat} : (txL es).length + 2 = (tx (.thr k es)).length := by simp [tx]
end Go.Proofs.Ytnfaihgnggmpkaa

/- Satisfaction of trees: monotone, local, dual; plain facts, no program. -/
namespace Go.Proofs.Ytnfaihgnggmpkaa

mutual
theorem sat_mono {s t : Nat} (h : ∀ i, Nat.testBit s i = true → Nat.testBit t i = true) : (x : Ex) → sat s x = true → sat t x = true
  | .mem m, hs => by simp only [sat] at hs ⊢; exact h _ hs
  | .thr k es, hs => by simp only [sat, decide_eq_true_eq] at hs ⊢; exact Nat.le_trans hs (satL_mono h es)
theorem satL_mono {s t : Nat} (h : ∀ i, Nat.testBit s i = true → Nat.testBit t i = true) : (es : List Ex) → satL s es ≤ satL t es
  | [] => by simp [satL]
  | e :: es => by
    have h1 := satL_mono h es
    have h2 := sat_mono h e
    simp only [satL]
    by_cases hs : sat s e = true
    · rw [if_pos hs, if_pos (h2 hs)]; omega
    · rw [if_neg hs]; split <;> omega
end
mutual
theorem sat_eq {s t : Nat} : (x : Ex) → wf x → (∀ i, Nat.testBit (ms x) i = true → Nat.testBit s i = Nat.testBit t i) → sat s x = sat t x
  | .mem m, _, h => by simp only [sat]; exact h _ (by simp only [ms]; exact Nat.testBit_two_pow_self)
  | .thr k es, hw, h => by simp only [wf] at hw; simp only [sat]; rw [satL_eq es hw.2.2.2 (by simpa only [ms] using h)]
theorem satL_eq {s t : Nat} : (es : List Ex) → wfL es → (∀ i, Nat.testBit (msL es) i = true → Nat.testBit s i = Nat.testBit t i) → satL s es = satL t es
  | [], _, _ => by simp [satL]
  | e :: es, hw, h => by
    simp only [wfL] at hw
    simp only [msL, Nat.testBit_or, Bool.or_eq_true] at h
    simp only [satL]
    rw [sat_eq e hw.1 (fun i hi => h i (.inl hi)), satL_eq es hw.2 (fun i hi => h i (.inr hi))]
end
theorem sat_local {s m : Nat} {x : Ex} (hw : wf x) (hm : m = ms x) : sat (s &&& m) x = sat s x :=
  sat_eq x hw fun i hi => by rw [hm, Nat.testBit_and, hi, Bool.and_true]
mutual
theorem sat_zero : (x : Ex) → wf x → sat 0 x = false
  | .mem m, _ => by simp [sat]
  | .thr k es, h => by simp only [wf] at h; simp only [sat, satL_zero es h.2.2.2]; simp; omega
theorem satL_zero : (es : List Ex) → wfL es → satL 0 es = 0
  | [], _ => by simp [satL]
  | e :: es, h => by simp only [wfL] at h; simp only [satL, sat_zero e h.1, satL_zero es h.2]; simp
end
theorem bit63 {m : Nat} (h1 : 1 ≤ m) (h6 : m ≤ 6) : Nat.testBit 63 (m - 1) = true := by
  have H : ∀ m : Fin 7, 1 ≤ m.val → Nat.testBit 63 (m.val - 1) = true := by decide
  exact H ⟨m, by omega⟩ h1
mutual
theorem sat_all : (x : Ex) → wf x → sat 63 x = true
  | .mem m, h => by simp only [wf] at h; simp only [sat]; exact bit63 h.1 h.2
  | .thr k es, h => by simp only [wf] at h; simp only [sat, satL_all es h.2.2.2]; simp; omega
theorem satL_all : (es : List Ex) → wfL es → satL 63 es = es.length
  | [], _ => by simp [satL]
  | e :: es, h => by simp only [wfL] at h; simp only [satL, sat_all e h.1, satL_all es h.2, if_true, List.length_cons]; omega
end
theorem sat_own {x : Ex} (hw : wf x) : sat (ms x) x = true := by
  have h := sat_local (s := 63) hw rfl
  have hlt := ms_lt x hw
  have : 63 &&& ms x = ms x := by
    have H : ∀ m : Fin 64, 63 &&& m.val = m.val := by decide
    exact H ⟨ms x, hlt⟩
  rw [this, sat_all x hw] at h
  exact h
theorem bit_comp {s m : Nat} (hs : s < 64) (h1 : 1 ≤ m) (h6 : m ≤ 6) : Nat.testBit (andNot 63 s) (m - 1) = !Nat.testBit s (m - 1) := by
  have H : ∀ s : Fin 64, ∀ m : Fin 7, 1 ≤ m.val → Nat.testBit (andNot 63 s.val) (m.val - 1) = !Nat.testBit s.val (m.val - 1) := by decide +kernel
  exact H ⟨s, hs⟩ ⟨m, by omega⟩ h1
mutual
theorem sat_dual {s : Nat} (hs : s < 64) : (x : Ex) → wf x → sat s (dual x) = !sat (andNot 63 s) x
  | .mem m, h => by simp only [wf] at h; simp only [dual, sat, bit_comp hs h.1 h.2, Bool.not_not]
  | .thr k es, h => by
    simp only [wf] at h
    have h1 := satL_dual hs es h.2.2.2
    have h2 := satL_le (andNot 63 s) es
    simp only [dual, sat]
    by_cases hk : k ≤ satL (andNot 63 s) es
    · have : ¬ es.length - k + 1 ≤ satL s (dualL es) := by omega
      simp [hk, this]
    · have : es.length - k + 1 ≤ satL s (dualL es) := by omega
      simp [hk, this]
theorem satL_dual {s : Nat} (hs : s < 64) : (es : List Ex) → wfL es → satL s (dualL es) + satL (andNot 63 s) es = es.length
  | [], _ => by simp [dualL, satL]
  | e :: es, h => by
    simp only [wfL] at h
    have h1 := sat_dual hs e h.1
    have h2 := satL_dual hs es h.2
    simp only [dualL, satL, List.length_cons, h1]
    cases sat (andNot 63 s) e <;> simp <;> omega
end
mutual
theorem ms_dual : (x : Ex) → ms (dual x) = ms x
  | .mem m => by simp [dual]
  | .thr k es => by simp only [dual, ms, msL_dual es]
theorem msL_dual : (es : List Ex) → msL (dualL es) = msL es
  | [] => by simp [dualL]
  | e :: es => by simp only [dualL, msL, ms_dual e, msL_dual es]
end
mutual
theorem dep_dual : (x : Ex) → dep (dual x) = dep x
  | .mem m => by simp [dual]
  | .thr k es => by simp only [dual, dep, depL_dual es]
theorem depL_dual : (es : List Ex) → depL (dualL es) = depL es
  | [] => by simp [dualL]
  | e :: es => by simp only [dualL, depL, dep_dual e, depL_dual es]
end
theorem ms_pos {x : Ex} (hw : wf x) : mem (ms x) ≠ [] := by
  intro h
  have h1 := sat_own hw
  have h2 : ms x = 0 := by
    have := msk_mem (ms_lt x hw)
    rw [h] at this
    exact this.symm
  rw [h2, sat_zero x hw] at h1
  cases h1
theorem msk_un {a b : List Int} (ha : vld a = true) (hb : vld b = true) : msk (union a b) = msk a ||| msk b := by
  rw [← union_msk ha hb, msk_mem (Nat.or_lt_two_pow (n := 6) (msk_lt ha) (msk_lt hb))]
theorem msk_in {a b : List Int} (ha : vld a = true) (hb : vld b = true) : msk (inter a b) = msk a &&& msk b := by
  rw [← inter_msk ha hb, msk_mem (Nat.lt_of_le_of_lt Nat.and_le_left (msk_lt ha))]
theorem msk_mi {a b : List Int} (ha : vld a = true) (hb : vld b = true) : msk (minus a b) = andNot (msk a) (msk b) := by
  rw [← minus_msk ha hb, msk_mem (show andNot (msk a) (msk b) < 64 from Nat.lt_of_le_of_lt Nat.and_le_left (msk_lt ha))]
end Go.Proofs.Ytnfaihgnggmpkaa

/- The sets that satisfy an expression, no program. -/
namespace Go.Proofs.Ytnfaihgnggmpkaa
def satF (x : Ex) (s : Nat) : Bool := sat s x
def satL' (x : Ex) : List Nat := (List.range 64).filter (satF x)
def expM (T : ByteArray) : List Nat := match pT0 T with | none => [] | some x => satL' x
theorem satL'_msk (x : Ex) : Msk (satL' x) := fun _ hq => List.mem_range.1 (List.mem_filter.1 hq).1
theorem mem_satL' {x : Ex} {s : Nat} : s ∈ satL' x ↔ s < 64 ∧ sat s x = true := by simp [satL', satF]
end Go.Proofs.Ytnfaihgnggmpkaa

/- The minimal sets that satisfy an expression, the program's, by their contract. -/
namespace Go.Proofs.Ytnfaihgnggmpkaa
open Go.RowKit Go.Shelf
attribute [local go_sem] Oper.semAt_some

end Go.Proofs.Ytnfaihgnggmpkaa

/- The minimal sets that satisfy an expression, the program's, by their contract. -/
namespace Go.Proofs.Ytnfaihgnggmpkaa
open Go.RowKit Go.Shelf
attribute [local go_sem] Oper.semAt_some

end Go.Proofs.Ytnfaihgnggmpkaa

/- The quorums of an expression, of the reference model and of the program, by their contracts. -/
namespace Go.Proofs.Ytnfaihgnggmpkaa
open Go.RowKit

set_option maxRecDepth 100000 in
set_option maxHeartbeats 1600000 in
theorem l3OfExpr_any (T : ByteArray) (x : Ex) (w : World) (hp : pT0 T = some x) :
    Calls Try.prog 47 #[.string T] w (NewSS w (mems (mins (satL' x)))) := by
  obtain ⟨i0, hi0, hz0, hz1, hz2⟩ := info_parts slice_info
  obtain ⟨hx, hw, hxl⟩ := bx_of hp
  have HD := Lib.hid (fun (s : Nat) (hs : s < 64) (A : Option Addr) (c : Nat) (w' : World) (h : IL w' A (mem s)) => l2Sat_any s hs A c 40 x w' hxl (by omega) hw h)
  rw [← hx] at HD
  obtain ⟨p, hpp⟩ : ∃ p, p = satF x := ⟨_, rfl⟩
  have HT := Lib.hid (show (List.range 64).filter p = satL' x by rw [hpp]; rfl)
  have HP := Lib.hid (show ∀ k, p k = sat k x by intro k; rw [hpp]; rfl)
  clear hpp hp hx hw hxl
  have h00 : (w.alloc (.cells #[] 47)).ownsRow w.heap.size 47 1 (.slice (some ⟨w.heap.size, 0, none⟩) 0 0) 0 [] := World.ownsRow_made w #[] 0 (Nat.le_refl _) (by unfold maxLen; omega) (by simp)
  have hb00 : Below w.heap.size w (w.alloc (.cells #[] 47)) := (Below.refl _ w).alloc (Nat.le_refl _) _
  have H00 := Lib.hid (And.intro h00 hb00)
  clear h00 hb00
  go_enter Try.func47, Try.ntmps47
  go_wp2
  go_loopw [3, 4] (fun v i wr => ∃ (k : Nat) (rs : List Value) (A5 : Option Addr) (c5 : Nat), k ≤ 64 ∧ i = .int .i64 k ∧ v = .slice A5 rs.length c5 ∧ rs.length ≤ k ∧ wr.ownsRow w.heap.size 47 1 (.slice A5 rs.length c5) rs.length rs ∧ Hid (Rws wr w.heap.size wr.heap.size (mems ((List.range k).filter p)) rs) ∧ Below w.heap.size w wr) (fun _ i _ => 64 - (intOf i).toNat)
  case atStart => exact ⟨0, [], _, _, by omega, rfl, rfl, by simp, H00.out.1, Rws.nil _ _ _, H00.out.2⟩
  case round =>
    clear H00
    obtain ⟨k, rs, A5, c5, hk, rfl, rfl, hrl, hown, hrows, hbel⟩ := hrel
    by_cases hlt : k < 64
    · go_wp2_with fail
      refine (l1Masks_any _).mono ?_
      rintro e w' ⟨rfl, rfl⟩
      go_wp2_with fail
      refine (l1OfMask_any k _ hlt).mono ?_
      rintro e w2 ⟨A2, c2, rfl, o2, b2⟩
      have hil2 := (IL.of_own o2).1
      have hml := mem_len k
      have HO2 := Lib.hid (Own.of_new o2)
      clear o2
      go_wp2_with fail
      refine (HD.out k hlt A2 c2 _ hil2).mono ?_
      rintro e w3 ⟨he, b3⟩
      have b23 := below_step b2 b3
      have hown3 := own_at hown (w' := w3) fun g hg => b23.block g (hown.lt g hg).2
      have HR3 := Lib.hid (hrows.out.below (Nat.le_refl _) b23)
      have HX3 := Lib.hid (show RowAt w3 wr.heap.size w2.heap.size (mem k) (.slice A2 (mem k).length c2) from ⟨_, _, rfl, HO2.out.below b3⟩)
      have hb3 := below_step hbel b23
      have hq : w.heap.size ≤ wr.heap.size ∧ wr.heap.size ≤ w2.heap.size ∧ w2.heap.size ≤ w3.heap.size := ⟨hbel.size, b2.size, b3.size⟩
      clear hown hrows b2 b3 hil2 HO2
      have HE := HP.out k
      rw [← HE] at he
      cases hpk : p k
      · rw [hpk] at he
        subst he
        have R := Lib.hid (show w3.ownsRow w.heap.size 47 1 (.slice A5 rs.length c5) rs.length rs ∧ Rws w3 w.heap.size w3.heap.size (mems ((List.range (k + 1)).filter p)) rs ∧ Below w.heap.size w w3 by
          refine ⟨hown3, ?_, hb3⟩
          rw [mems_range_no hpk]
          exact Rws.hi_le HR3.out (by omega) (Nat.le_refl _))
        clear hown3 HR3 hb3 b23 hbel hpk HE HX3
        go_wp2
        go_roundw
        case rel => exact ⟨k + 1, rs, A5, c5, by omega, by go_num, rfl, by omega, R.out.1, R.out.2.1, R.out.2.2⟩
        case measure => simp [intOf]; omega
      · rw [hpk] at he
        subst he
        have HPK := Lib.hid hpk
        clear hpk HE hbel b23
        go_wp2_with (at_builtin; refine wpList_append_own _ rfl (.tmp 17) (.tmp 19) 23 rfl w.heap.size 47 i0 (.slice none 0 0) 1 24 Try.underlying23 hi0 hz0 hz1 hz2 rfl (by decide) _ _ _ rfl (hown3.alloc _) ⟨w3.heap.size, 0, none⟩ 1 1 [.slice A2 (mem k).length c2] rfl rfl (cell_one_new _ _ _) (slice_oneCell _ _ _) (by unfold maxLen; omega) (by omega) (by simp; omega) ?_)
        intro v5 w5 hown5 hgrow5 _
        have R := Lib.hid (show ∃ rs' A6 c6, v5 = Value.slice A6 (List.length rs') c6 ∧ rs'.length = rs.length + 1 ∧ w5.ownsRow w.heap.size 47 1 (.slice A6 (List.length rs') c6) (List.length rs') rs' ∧ Rws w5 w.heap.size w5.heap.size (mems ((List.range (k + 1)).filter p)) rs' ∧ Below w.heap.size w w5 by
          have h3 : w5.ownsRow w.heap.size 47 1 v5 (rs ++ [Value.slice A2 (mem k).length c2]).length (rs ++ [Value.slice A2 (mem k).length c2]) := by simpa using hown5
          obtain ⟨A6, c6, h4⟩ := own_slice h3
          refine ⟨_, A6, c6, h4, by simp, by rw [← h4]; exact h3, ?_, app_gen hown3 (Nat.le_refl _) hb3 hgrow5⟩
          rw [mems_range_yes HPK.out]
          exact rows_app HR3.out HX3.out (Nat.le_refl _) hq.1 hq.2.1 hown3 hgrow5)
        obtain ⟨rs', A6, c6, rfl, hrl', R2⟩ := R.out
        have HR2 := Lib.hid R2
        clear R R2 hown5 hgrow5 hown3 HR3 HX3 hb3
        go_wp2
        go_roundw
        case rel => exact ⟨k + 1, rs', A6, c6, by omega, by go_num, rfl, by omega, HR2.out.1, HR2.out.2.1, HR2.out.2.2⟩
        case measure => simp [intOf]; omega
    · have hkl : k = 64 := by omega
      subst hkl
      have h1 := hrows.out
      have hrl2 : rs.length = (mems ((List.range 64).filter p)).length := h1.1
      have hiss : ISS wr A5 (mems ((List.range 64).filter p)) := by
        rw [hrl2] at hown
        exact h1.iss hown fun _ _ h => h
      rw [hrl2]
      have HV := Lib.hid (filter_allV p)
      have HM := Lib.hid (msks_filter p)
      have hsh := mems_short ((List.range 64).filter p) 1048576 (by omega)
      have hlen : (mems ((List.range 64).filter p)).length ≤ 1048576 := by omega
      clear hown hrows h1 hrl2
      generalize mems ((List.range 64).filter p) = U at *
      go_wp2_with fail
      refine (l1Masks_any _).mono ?_
      rintro e w' ⟨rfl, rfl⟩
      go_wp2_with fail
      refine (l3Min_any _ _ _ _ hiss hlen hsh HV.out).mono ?_
      rintro e w5 ⟨A7, c7, rfl, o7, b7⟩
      have HR := Lib.hid (show NewSS w (mems (mins (satL' x))) (.returned (.slice A7 (mems (mins (msks U))).length c7)) w5 by
        rw [HM.out, HT.out] at *
        exact ⟨A7, c7, rfl, o7.base hbel.size, below_step hbel b7⟩)
      clear o7 b7
      go_wp2
      go_ret
      exact HR.out

theorem expM_some {T : ByteArray} {x : Ex} (h : pT0 T = some x) : expM T = satL' x := by unfold expM; rw [h]
theorem okX_none {T : ByteArray} (h : pT0 T = none) : okX T = false := by simp [okX, h]
theorem okX_some {T : ByteArray} {x : Ex} (h : pT0 T = some x) : okX T = true := by simp [okX, h]

set_option maxRecDepth 100000 in
set_option maxHeartbeats 1600000 in
theorem specOfEx_any (T : ByteArray) (w : World) (hT : T.size ≤ 1048576) :
    Calls Try.prog 31 #[.string T] w (NewSS2 w (outM (expM T) (okX T)) (okX T)) := by
  cases hp : pT0 T with
  | none =>
    have HC := Lib.hid (spec_no T w hT hp)
    have HB := Lib.hid (okX_none hp)
    clear hp
    go_enter Try.func31, Try.ntmps31
    go_wp2_with fail
    refine HC.out.mono ?_
    rintro e w' ⟨rfl, rfl⟩
    go_wp2
    go_ret2
    rw [HB.out, outM]
    exact NewSS2.made (Below.refl _ _)
  | some x =>
    have HC := Lib.hid (spec_yes T w hT hp)
    have HB := Lib.hid (okX_some hp)
    have HE := Lib.hid (expM_some hp)
    have HL := Lib.hid (fun w => l3OfExpr_any T x w hp)
    clear hp
    go_enter Try.func31, Try.ntmps31
    go_wp2_with fail
    refine HC.out.mono ?_
    rintro e w' ⟨rfl, rfl⟩
    clear HC
    go_wp2_with fail
    refine (HL.out _).mono ?_
    rintro e w1 ⟨A1, c1, rfl, o1, b1⟩
    have HR := Lib.hid (show NewSS2 w (outM (expM T) (okX T)) (okX T) (.returned (.tuple #[.slice A1 (mems (mins (satL' x))).length c1, .bool true])) w1 by
      rw [HB.out, outM, HE.out]
      exact ⟨A1, c1, rfl, o1, b1⟩)
    clear o1 b1 HL
    go_wp2
    go_ret2
    exact HR.out

end Go.Proofs.Ytnfaihgnggmpkaa
