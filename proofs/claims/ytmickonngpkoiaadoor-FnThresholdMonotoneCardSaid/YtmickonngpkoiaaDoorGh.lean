/- Duals of trees and their texts; plain facts, no program. -/
import Derived.Test.YtmickonngpkoiaaDoorGe
import Derived.Lib.Join
import Derived.Test.YtmickonngpkoiaaDoorGa
import Derived.Test.YtmickonngpkoiaaDoorGd
namespace Go.Proofs.YtmickonngpkoiaaDoor

mutual
theorem dual_len : (e : Ex) → wf e → (tx (dual e)).length = (tx e).length
  | .mem m, _ => by simp [dual]
  | .thr k es, h => by simp only [wf] at h; have := dualL_txlen es h.2.2.2; simp only [dual, tx, List.length_cons]; omega
theorem dualL_txlen : (es : List Ex) → wfL es → (txL (dualL es)).length = (txL es).length ∧ (txT (dualL es)).length = (txT es).length
  | [], _ => by simp [dualL]
  | e :: es, h => by
    simp only [wfL] at h
    have h1 := dual_len e h.1
    have h2 := dualL_txlen es h.2
    simp only [dualL, txT_cons, txL_cons, List.length_append, List.length_cons]
    omega
end
mutual
theorem dual_wf : (e : Ex) → wf e → wf (dual e)
  | .mem m, h => by simpa [dual] using h
  | .thr k es, h => by
    simp only [wf] at h
    have h1 := dualL_wf es h.2.2.2
    have h2 := dualL_len es
    simp only [dual, wf]
    exact ⟨by omega, by omega, by omega, h1⟩
theorem dualL_wf : (es : List Ex) → wfL es → wfL (dualL es)
  | [], _ => by simp [dualL, wfL]
  | e :: es, h => by simp only [wfL] at h; simp only [dualL, wfL]; exact ⟨dual_wf e h.1, dualL_wf es h.2⟩
end
mutual
theorem dual_dual : (e : Ex) → wf e → dual (dual e) = e
  | .mem m, _ => by simp [dual]
  | .thr k es, h => by
    simp only [wf] at h
    have h1 := dualL_dualL es h.2.2.2
    have h2 := dualL_len es
    simp only [dual, h1, h2]
    congr 1
    omega
theorem dualL_dualL : (es : List Ex) → wfL es → dualL (dualL es) = es
  | [], _ => by simp [dualL]
  | e :: es, h => by simp only [wfL] at h; simp only [dualL, dual_dual e h.1, dualL_dualL es h.2]
end
/-- What is still to be written behind j operands. -/
def rest (ds : List Ex) (j : Nat) : List UInt8 := if j = 0 then txL ds else txT (ds.drop j)
theorem rest_step {ds : List Ex} {j : Nat} {d : Ex} (h : ds[j]? = some d) : rest ds j = (if j = 0 then [] else [44]) ++ tx d ++ rest ds (j + 1) := by
  unfold rest
  rw [if_neg (by omega : ¬ j + 1 = 0)]
  by_cases h0 : j = 0
  · subst h0
    rw [if_pos rfl, if_pos rfl]
    have := drop_c h
    rw [List.drop_zero] at this
    rw [this, txL_cons]
    simp
  · rw [if_neg h0, if_neg h0, drop_c h, txT_cons, txL_cons]
    simp
theorem rest_end {ds : List Ex} (h : 1 ≤ ds.length) : rest ds ds.length = [41] := by
  unfold rest
  rw [if_neg (by omega), List.drop_length, txT_nil]
theorem join_tx (es : List Ex) (h : es ≠ []) : Lib.join (es.map tx) [44] ++ [41] = txL es := by
  cases es with
  | nil => exact absurd rfl h
  | cons e es =>
    rw [List.map_cons, Lib.join_cons, txL_cons]
    have : ∀ es : List Ex, Lib.joinTail [44] (es.map tx) ++ [41] = txT es := by
      intro es
      induction es with
      | nil => simp [Lib.joinTail, txT]
      | cons e es ih =>
        rw [txT_cons, txL_cons, ← ih]
        simp [Lib.joinTail]
    rw [List.append_assoc, this]
theorem data_app0 (a b : ByteArray) : (a ++ b).data.toList = a.data.toList ++ b.data.toList := by simp [ByteArray.data_append]
theorem dig_dg (n : Nat) : dig (n : Int) = [dg n] := by simp [dig, dg]
theorem txL_le {es : List Ex} {k : Nat} : (txL es).length + 2 = (tx (.thr k es)).length := by simp [tx]
end Go.Proofs.YtmickonngpkoiaaDoor

/- Satisfaction of trees: monotone, local, dual; plain facts, no program. -/
namespace Go.Proofs.YtmickonngpkoiaaDoor

mutual
theorem sat_mono {s t : Nat} (h : ∀ i, Nat.testBit s i = true → Nat.testBit t i = true) : (x : Ex) → sat s x = true → sat t x = true
  | .mem m, hs => by simp only [sat] at hs ⊢; exact h _ hs
  | .thr k es, hs => by simp only [sat, decide_eq_true_eq] at hs ⊢; exact Nat.le_trans hs (satL_mono h es)
theorem satL_mono {s t : Nat} (h : ∀ i, Nat.testBit s i = true → Nat.testBit t i = true) : (es : List Ex) → satL s es ≤ satL t es
  | [] => by simp [satL]
  | e :: es => by
    have h1 := satL_mono h es
    have h2 := sat_mono h e
    simp only [satL]
    by_cases hs : sat s e = true
    · rw [if_pos hs, if_pos (h2 hs)]; omega
    · rw [if_neg hs]; split <;> omega
end
mutual
theorem sat_eq {s t : Nat} : (x : Ex) → wf x → (∀ i, Nat.testBit (ms x) i = true → Nat.testBit s i = Nat.testBit t i) → sat s x = sat t x
  | .mem m, _, h => by simp only [sat]; exact h _ (by simp only [ms]; exact Nat.testBit_two_pow_self)
  | .thr k es, hw, h => by simp only [wf] at hw; simp only [sat]; rw [satL_eq es hw.2.2.2 (by simpa only [ms] using h)]
theorem satL_eq {s t : Nat} : (es : List Ex) → wfL es → (∀ i, Nat.testBit (msL es) i = true → Nat.testBit s i = Nat.testBit t i) → satL s es = satL t es
  | [], _, _ => by simp [satL]
  | e :: es, hw, h => by
    simp only [wfL] at hw
    simp only [msL, Nat.testBit_or, Bool.or_eq_true] at h
    simp only [satL]
    rw [sat_eq e hw.1 (fun i hi => h i (.inl hi)), satL_eq es hw.2 (fun i hi => h i (.inr hi))]
end
theorem sat_local {s m : Nat} {x : Ex} (hw : wf x) (hm : m = ms x) : sat (s &&& m) x = sat s x :=
  sat_eq x hw fun i hi => by rw [hm, Nat.testBit_and, hi, Bool.and_true]
mutual
theorem sat_zero : (x : Ex) → wf x → sat 0 x = false
  | .mem m, _ => by simp [sat]
  | .thr k es, h => by simp only [wf] at h; simp only [sat, satL_zero es h.2.2.2]; simp; omega
theorem satL_zero : (es : List Ex) → wfL es → satL 0 es = 0
  | [], _ => by simp [satL]
  | e :: es, h => by simp only [wfL] at h; simp only [satL, sat_zero e h.1, satL_zero es h.2]; simp
end
theorem bit63 {m : Nat} (h1 : 1 ≤ m) (h6 : m ≤ 6) : Nat.testBit 63 (m - 1) = true := by
  have H : ∀ m : Fin 7, 1 ≤ m.val → Nat.testBit 63 (m.val - 1) = true := by decide
  exact H ⟨m, by omega⟩ h1
mutual
theorem sat_all : (x : Ex) → wf x → sat 63 x = true
  | .mem m, h => by simp only [wf] at h; simp only [sat]; exact bit63 h.1 h.2
  | .thr k es, h => by simp only [wf] at h; simp only [sat, satL_all es h.2.2.2]; simp; omega
theorem satL_all : (es : List Ex) → wfL es → satL 63 es = es.length
  | [], _ => by simp [satL]
  | e :: es, h => by simp only [wfL] at h; simp only [satL, sat_all e h.1, satL_all es h.2, if_true, List.length_cons]; omega
end
theorem sat_own {x : Ex} (hw : wf x) : sat (ms x) x = true := by
  have h := sat_local (s := 63) hw rfl
  have hlt := ms_lt x hw
  have : 63 &&& ms x = ms x := by
    have H : ∀ m : Fin 64, 63 &&& m.val = m.val := by decide
    exact H ⟨ms x, hlt⟩
  rw [this, sat_all x hw] at h
  exact h
theorem bit_comp {s m : Nat} (hs : s < 64) (h1 : 1 ≤ m) (h6 : m ≤ 6) : Nat.testBit (andNot 63 s) (m - 1) = !Nat.testBit s (m - 1) := by
  have H : ∀ s : Fin 64, ∀ m : Fin 7, 1 ≤ m.val → Nat.testBit (andNot 63 s.val) (m.val - 1) = !Nat.testBit s.val (m.val - 1) := by decide +kernel
  exact H ⟨s, hs⟩ ⟨m, by omega⟩ h1
mutual
theorem sat_dual {s : Nat} (hs : s < 64) : (x : Ex) → wf x → sat s (dual x) = !sat (andNot 63 s) x
  | .mem m, h => by simp only [wf] at h; simp only [dual, sat, bit_comp hs h.1 h.2, Bool.not_not]
  | .thr k es, h => by
    simp only [wf] at h
    have h1 := satL_dual hs es h.2.2.2
    have h2 := satL_le (andNot 63 s) es
    simp only [dual, sat]
    by_cases hk : k ≤ satL (andNot 63 s) es
    · have : ¬ es.length - k + 1 ≤ satL s (dualL es) := by omega
      simp [hk, this]
    · have : es.length - k + 1 ≤ satL s (dualL es) := by omega
      simp [hk, this]
theorem satL_dual {s : Nat} (hs : s < 64) : (es : List Ex) → wfL es → satL s (dualL es) + satL (andNot 63 s) es = es.length
  | [], _ => by simp [dualL, satL]
  | e :: es, h => by
    simp only [wfL] at h
    have h1 := sat_dual hs e h.1
    have h2 := satL_dual hs es h.2
    simp only [dualL, satL, List.length_cons, h1]
    cases sat (andNot 63 s) e <;> simp <;> omega
end
mutual
theorem ms_dual : (x : Ex) → ms (dual x) = ms x
  | .mem m => by simp [dual]
  | .thr k es => by simp only [dual, ms, msL_dual es]
theorem msL_dual : (es : List Ex) → msL (dualL es) = msL es
  | [] => by simp [dualL]
  | e :: es => by simp only [dualL, msL, ms_dual e, msL_dual es]
end
mutual
theorem dep_dual : (x : Ex) → dep (dual x) = dep x
  | .mem m => by simp [dual]
  | .thr k es => by simp only [dual, dep, depL_dual es]
theorem depL_dual : (es : List Ex) → depL (dualL es) = depL es
  | [] => by simp [dualL]
  | e :: es => by simp only [dualL, depL, dep_dual e, depL_dual es]
end
theorem ms_pos {x : Ex} (hw : wf x) : mem (ms x) ≠ [] := by
  intro h
  have h1 := sat_own hw
  have h2 : ms x = 0 := by
    have := msk_mem (ms_lt x hw)
    rw [h] at this
    exact this.symm
  rw [h2, sat_zero x hw] at h1
  cases h1
theorem msk_un {a b : List Int} (ha : vld a = true) (hb : vld b = true) : msk (union a b) = msk a ||| msk b := by
  rw [← union_msk ha hb, msk_mem (Nat.or_lt_two_pow (n := 6) (msk_lt ha) (msk_lt hb))]
theorem msk_in {a b : List Int} (ha : vld a = true) (hb : vld b = true) : msk (inter a b) = msk a &&& msk b := by
  rw [← inter_msk ha hb, msk_mem (Nat.lt_of_le_of_lt Nat.and_le_left (msk_lt ha))]
theorem msk_mi {a b : List Int} (ha : vld a = true) (hb : vld b = true) : msk (minus a b) = andNot (msk a) (msk b) := by
  rw [← minus_msk ha hb, msk_mem (show andNot (msk a) (msk b) < 64 from Nat.lt_of_le_of_lt Nat.and_le_left (msk_lt ha))]
end Go.Proofs.YtmickonngpkoiaaDoor

/- The sets that satisfy an expression, no program. -/
namespace Go.Proofs.YtmickonngpkoiaaDoor
def satF (x : Ex) (s : Nat) : Bool := sat s x
def satL' (x : Ex) : List Nat := (List.range 64).filter (satF x)
def expM (T : ByteArray) : List Nat := match pT0 T with | none => [] | some x => satL' x
theorem satL'_msk (x : Ex) : Msk (satL' x) := fun _ hq => List.mem_range.1 (List.mem_filter.1 hq).1
theorem mem_satL' {x : Ex} {s : Nat} : s ∈ satL' x ↔ s < 64 ∧ sat s x = true := by simp [satL', satF]
end Go.Proofs.YtmickonngpkoiaaDoor

/- The minimal sets that satisfy an expression, the program's, by their contract. -/
namespace Go.Proofs.YtmickonngpkoiaaDoor
open Go.RowKit Go.Shelf
attribute [local go_sem] Oper.semAt_some

end Go.Proofs.YtmickonngpkoiaaDoor

/- The minimal sets that satisfy an expression, the program's, by their contract. -/
namespace Go.Proofs.YtmickonngpkoiaaDoor
open Go.RowKit Go.Shelf
attribute [local go_sem] Oper.semAt_some

end Go.Proofs.YtmickonngpkoiaaDoor

/- The quorums of an expression, of the reference model and of the program, by their contracts. -/
namespace Go.Proofs.YtmickonngpkoiaaDoor
open Go.RowKit

theorem expM_some {T : ByteArray} {x : Ex} (h : pT0 T = some x) : expM T = satL' x := by unfold expM; rw [h]
theorem okX_none {T : ByteArray} (h : pT0 T = none) : okX T = false := by simp [okX, h]
theorem okX_some {T : ByteArray} {x : Ex} (h : pT0 T = some x) : okX T = true := by simp [okX, h]

end Go.Proofs.YtmickonngpkoiaaDoor
