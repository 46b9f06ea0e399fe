/- What trees mean: depth, members, satisfaction, duals; plain facts, no program. -/
import Derived.Test.YtgbijndfpbcjeaaEx
import Derived.Test.YtgbijndfpbcjeaaMath2
namespace Go.Proofs.Ytgbijndfpbcjeaa

mutual
def dep : Ex → Nat
  | .mem _ => 0
  | .thr _ es => depL es
def depL : List Ex → Nat
  | [] => 0
  | e :: es => max (1 + dep e) (depL es)
end
mutual
def ms : Ex → Nat
  | .mem m => 2 ^ (m - 1)
  | .thr _ es => msL es
def msL : List Ex → Nat
  | [] => 0
  | e :: es => ms e ||| msL es
end
mutual
def sat (s : Nat) : Ex → Bool
  | .mem m => Nat.testBit s (m - 1)
  | .thr k es => decide (k ≤ satL s es)
def satL (s : Nat) : List Ex → Nat
  | [] => 0
  | e :: es => (if sat s e = true then 1 else 0) + satL s es
end
mutual
def dual : Ex → Ex
  | .mem m => .mem m
  | .thr k es => .thr (es.length - k + 1) (dualL es)
def dualL : List Ex → List Ex
  | [] => []
  | e :: es => dual e :: dualL es
end

theorem drop_c {α : Type} {l : List α} {k : Nat} {c : α} (h : l[k]? = some c) : l.drop k = c :: l.drop (k + 1) := by
  obtain ⟨hk, rfl⟩ := List.getElem?_eq_some_iff.1 h
  exact List.drop_eq_getElem_cons hk
mutual
theorem dep_len : (e : Ex) → dep e + 1 ≤ (tx e).length
  | .mem m => by simp [dep, tx]
  | .thr k es => by have := depL_len es; simp only [dep, tx, List.length_cons]; omega
theorem depL_len : (es : List Ex) → depL es ≤ (txL es).length ∧ depL es ≤ (txT es).length
  | [] => by simp [depL]
  | e :: es => by
    have h1 := dep_len e
    have h2 := depL_len es
    rw [txT_cons, txL_cons]
    simp only [depL, List.length_append, List.length_cons]
    omega
end
theorem txT_at : (es : List Ex) → (j : Nat) → (e : Ex) → es[j]? = some e → (tx e).length + 1 ≤ (txT es).length
  | [], j, e, h => by simp at h
  | x :: es, 0, e, h => by simp at h; subst h; rw [txT_cons, txL_cons]; simp
  | x :: es, j + 1, e, h => by
    have := txT_at es j e (by simpa using h)
    rw [txT_cons, txL_cons]; simp; omega
theorem tx_at {k : Nat} {es : List Ex} {j : Nat} {e : Ex} (h : es[j]? = some e) : (tx e).length + 2 ≤ (tx (.thr k es)).length := by
  have h1 := txT_at es j e h
  cases es with
  | nil => simp at h
  | cons x es => rw [txT_cons] at h1; simp only [tx, List.length_cons] at h1 ⊢; omega
theorem wfL_at : (es : List Ex) → wfL es → ∀ (j : Nat) (e : Ex), es[j]? = some e → wf e
  | [], _, j, e, h => by simp at h
  | x :: es, hw, 0, e, h => by simp at h; subst h; simp only [wfL] at hw; exact hw.1
  | x :: es, hw, j + 1, e, h => by simp only [wfL] at hw; exact wfL_at es hw.2 j e (by simpa using h)
theorem wf_at {k : Nat} {es : List Ex} (hw : wf (.thr k es)) {j : Nat} {e : Ex} (h : es[j]? = some e) : wf e := by
  simp only [wf] at hw; exact wfL_at es hw.2.2.2 j e h
theorem wfL_drop (es : List Ex) (hw : wfL es) : ∀ j, wfL (es.drop j) := by
  intro j
  induction j generalizing es with
  | zero => simpa using hw
  | succ j ih => cases es with
    | nil => simpa using hw
    | cons x es => simp only [wfL] at hw; simpa using ih es hw.2
theorem pow_lt {m : Nat} (h : m ≤ 6) : 2 ^ (m - 1) < 64 := by
  have H : ∀ m : Fin 7, 2 ^ (m.val - 1) < 64 := by decide
  exact H ⟨m, by omega⟩
mutual
theorem ms_lt : (e : Ex) → wf e → ms e < 64
  | .mem m, h => by simp only [wf] at h; simp only [ms]; exact pow_lt h.2
  | .thr k es, h => by simp only [wf] at h; simp only [ms]; exact msL_lt es h.2.2.2
theorem msL_lt : (es : List Ex) → wfL es → msL es < 64
  | [], _ => by simp [msL]
  | e :: es, h => by simp only [wfL] at h; simp only [msL]; exact Nat.or_lt_two_pow (n := 6) (ms_lt e h.1) (msL_lt es h.2)
end
theorem satL_le (s : Nat) : (es : List Ex) → satL s es ≤ es.length
  | [] => by simp [satL]
  | e :: es => by have := satL_le s es; simp only [satL, List.length_cons]; split <;> omega
theorem dualL_len : (es : List Ex) → (dualL es).length = es.length
  | [] => rfl
  | e :: es => by simp [dualL, dualL_len es]
theorem dualL_at : (es : List Ex) → (j : Nat) → (e : Ex) → es[j]? = some e → (dualL es)[j]? = some (dual e)
  | [], j, e, h => by simp at h
  | x :: es, 0, e, h => by simp at h; subst h; simp [dualL]
  | x :: es, j + 1, e, h => by simp only [dualL]; simpa using dualL_at es j e (by simpa using h)
theorem mem_one {m : Nat} (h1 : 1 ≤ m) (h6 : m ≤ 6) : mem (2 ^ (m - 1)) = [(m : Int)] := by
  have H : ∀ m : Fin 7, 1 ≤ m.val → mem (2 ^ (m.val - 1)) = [(m.val : Int)] := by decide
  exact H ⟨m, by omega⟩ h1
theorem mem_or {a b : Nat} (ha : a < 64) (hb : b < 64) : union (mem a) (mem b) = mem (a ||| b) := by
  have := union_msk (vld_mem ha) (vld_mem hb)
  rw [msk_mem ha, msk_mem hb] at this
  exact this.symm
theorem has_mem_bit {s m : Nat} (hs : s < 64) (h1 : 1 ≤ m) (h6 : m ≤ 6) : has (mem s) (m : Int) = Nat.testBit s (m - 1) := by
  have H : ∀ s : Fin 64, ∀ m : Fin 7, 1 ≤ m.val → has (mem s.val) (m.val : Int) = Nat.testBit s.val (m.val - 1) := by decide +kernel
  exact H ⟨s, hs⟩ ⟨m, by omega⟩ h1
end Go.Proofs.Ytgbijndfpbcjeaa
