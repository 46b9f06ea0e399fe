/- Satisfaction of trees: monotone, local, dual; plain facts, no program. -/
import Derived.Test.YtgbijndfpbcjeaaSem3
namespace Go.Proofs.Ytgbijndfpbcjeaa

mutual
theorem sat_mono {s t : Nat} (h : ∀ i, Nat.testBit s i = true → Nat.testBit t i = true) : (x : Ex) → sat s x = true → sat t x = true
  | .mem m, hs => by simp only [sat] at hs ⊢; exact h _ hs
  | .thr k es, hs => by simp only [sat, decide_eq_true_eq] at hs ⊢; exact Nat.le_trans hs (satL_mono h es)
theorem satL_mono {s t : Nat} (h : ∀ i, Nat.testBit s i = true → Nat.testBit t i = true) : (es : List Ex) → satL s es ≤ satL t es
  | [] => by simp [satL]
  | e :: es => by
    have h1 := satL_mono h es
    have h2 := sat_mono h e
    simp only [satL]
    by_cases hs : sat s e = true
    · rw [if_pos hs, if_pos (h2 hs)]; omega
    · rw [if_neg hs]; split <;> omega
end
mutual
theorem sat_eq {s t : Nat} : (x : Ex) → wf x → (∀ i, Nat.testBit (ms x) i = true → Nat.testBit s i = Nat.testBit t i) → sat s x = sat t x
  | .mem m, _, h => by simp only [sat]; exact h _ (by simp only [ms]; exact Nat.testBit_two_pow_self)
  | .thr k es, hw, h => by simp only [wf] at hw; simp only [sat]; rw [satL_eq es hw.2.2.2 (by simpa only [ms] using h)]
theorem satL_eq {s t : Nat} : (es : List Ex) → wfL es → (∀ i, Nat.testBit (msL es) i = true → Nat.testBit s i = Nat.testBit t i) → satL s es = satL t es
  | [], _, _ => by simp [satL]
  | e :: es, hw, h => by
    simp only [wfL] at hw
    simp only [msL, Nat.testBit_or, Bool.or_eq_true] at h
    simp only [satL]
    rw [sat_eq e hw.1 (fun i hi => h i (.inl hi)), satL_eq es hw.2 (fun i hi => h i (.inr hi))]
end
theorem sat_local {s m : Nat} {x : Ex} (hw : wf x) (hm : m = ms x) : sat (s &&& m) x = sat s x :=
  sat_eq x hw fun i hi => by rw [hm, Nat.testBit_and, hi, Bool.and_true]
mutual
theorem sat_zero : (x : Ex) → wf x → sat 0 x = false
  | .mem m, _ => by simp [sat]
  | .thr k es, h => by simp only [wf] at h; simp only [sat, satL_zero es h.2.2.2]; simp; omega
theorem satL_zero : (es : List Ex) → wfL es → satL 0 es = 0
  | [], _ => by simp [satL]
  | e :: es, h => by simp only [wfL] at h; simp only [satL, sat_zero e h.1, satL_zero es h.2]; simp
end
theorem bit63 {m : Nat} (h1 : 1 ≤ m) (h6 : m ≤ 6) : Nat.testBit 63 (m - 1) = true := by
  have H : ∀ m : Fin 7, 1 ≤ m.val → Nat.testBit 63 (m.val - 1) = true := by decide
  exact H ⟨m, by omega⟩ h1
mutual
theorem sat_all : (x : Ex) → wf x → sat 63 x = true
  | .mem m, h => by simp only [wf] at h; simp only [sat]; exact bit63 h.1 h.2
  | .thr k es, h => by simp only [wf] at h; simp only [sat, satL_all es h.2.2.2]; simp; omega
theorem satL_all : (es : List Ex) → wfL es → satL 63 es = es.length
  | [], _ => by simp [satL]
  | e :: es, h => by simp only [wfL] at h; simp only [satL, sat_all e h.1, satL_all es h.2, if_true, List.length_cons]; omega
end
theorem sat_own {x : Ex} (hw : wf x) : sat (ms x) x = true := by
  have h := sat_local (s := 63) hw rfl
  have hlt := ms_lt x hw
  have : 63 &&& ms x = ms x := by
    have H : ∀ m : Fin 64, 63 &&& m.val = m.val := by decide
    exact H ⟨ms x, hlt⟩
  rw [this, sat_all x hw] at h
  exact h
theorem bit_comp {s m : Nat} (hs : s < 64) (h1 : 1 ≤ m) (h6 : m ≤ 6) : Nat.testBit (andNot 63 s) (m - 1) = !Nat.testBit s (m - 1) := by
  have H : ∀ s : Fin 64, ∀ m : Fin 7, 1 ≤ m.val → Nat.testBit (andNot 63 s.val) (m.val - 1) = !Nat.testBit s.val (m.val - 1) := by decide +kernel
  exact H ⟨s, hs⟩ ⟨m, by omega⟩ h1
mutual
theorem sat_dual {s : Nat} (hs : s < 64) : (x : Ex) → wf x → sat s (dual x) = !sat (andNot 63 s) x
  | .mem m, h => by simp only [wf] at h; simp only [dual, sat, bit_comp hs h.1 h.2, Bool.not_not]
  | .thr k es, h => by
    simp only [wf] at h
    have h1 := satL_dual hs es h.2.2.2
    have h2 := satL_le (andNot 63 s) es
    simp only [dual, sat]
    by_cases hk : k ≤ satL (andNot 63 s) es
    · have : ¬ es.length - k + 1 ≤ satL s (dualL es) := by omega
      simp [hk, this]
    · have : es.length - k + 1 ≤ satL s (dualL es) := by omega
      simp [hk, this]
theorem satL_dual {s : Nat} (hs : s < 64) : (es : List Ex) → wfL es → satL s (dualL es) + satL (andNot 63 s) es = es.length
  | [], _ => by simp [dualL, satL]
  | e :: es, h => by
    simp only [wfL] at h
    have h1 := sat_dual hs e h.1
    have h2 := satL_dual hs es h.2
    simp only [dualL, satL, List.length_cons, h1]
    cases sat (andNot 63 s) e <;> simp <;> omega
end
mutual
theorem ms_dual : (x : Ex) → ms (dual x) = ms x
  | .mem m => by simp [dual]
  | .thr k es => by simp only [dual, ms, msL_dual es]
theorem msL_dual : (es : List Ex) → msL (dualL es) = msL es
  | [] => by simp [dualL]
  | e :: es => by simp only [dualL, msL, ms_dual e, msL_dual es]
end
mutual
theorem dep_dual : (x : Ex) → dep (dual x) = dep x
  | .mem m => by simp [dual]
  | .thr k es => by simp only [dual, dep, depL_dual es]
theorem depL_dual : (es : List Ex) → depL (dualL es) = depL es
  | [] => by simp [dualL]
  | e :: es => by simp only [dualL, depL, dep_dual e, depL_dual es]
end
theorem ms_pos {x : Ex} (hw : wf x) : mem (ms x) ≠ [] := by
  intro h
  have h1 := sat_own hw
  have h2 : ms x = 0 := by
    have := msk_mem (ms_lt x hw)
    rw [h] at this
    exact this.symm
  rw [h2, sat_zero x hw] at h1
  cases h1
theorem msk_un {a b : List Int} (ha : vld a = true) (hb : vld b = true) : msk (union a b) = msk a ||| msk b := by
  rw [← union_msk ha hb, msk_mem (Nat.or_lt_two_pow (n := 6) (msk_lt ha) (msk_lt hb))]
theorem msk_in {a b : List Int} (ha : vld a = true) (hb : vld b = true) : msk (inter a b) = msk a &&& msk b := by
  rw [← inter_msk ha hb, msk_mem (Nat.lt_of_le_of_lt Nat.and_le_left (msk_lt ha))]
theorem msk_mi {a b : List Int} (ha : vld a = true) (hb : vld b = true) : msk (minus a b) = andNot (msk a) (msk b) := by
  rw [← minus_msk ha hb, msk_mem (show andNot (msk a) (msk b) < 64 from Nat.lt_of_le_of_lt Nat.and_le_left (msk_lt ha))]
end Go.Proofs.Ytgbijndfpbcjeaa
