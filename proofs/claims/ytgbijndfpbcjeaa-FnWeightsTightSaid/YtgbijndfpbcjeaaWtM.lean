/- Vote assignments as lists of integers, no program: sums of votes, and the minimal sets with enough of them. -/
import Derived.Test.YtgbijndfpbcjeaaFam2
namespace Go.Proofs.Ytgbijndfpbcjeaa

def wOk (w : List Int) : Bool := decide (1 ≤ w.length) && decide (w.length ≤ 6) && w.all fun x => decide (0 ≤ x) && decide (x ≤ 9)
/-- What stands at place j, or 0. -/
def vt (w : List Int) (j : Nat) : Int := w.getD j 0
theorem vt_some {w : List Int} {j : Nat} {x : Int} (h : w[j]? = some x) : vt w j = x := by unfold vt; rw [List.getD_eq_getElem?_getD, h]; rfl
theorem vt_none {w : List Int} {j : Nat} (h : w.length ≤ j) : vt w j = 0 := by unfold vt; rw [List.getD_eq_getElem?_getD, List.getElem?_eq_none h]; rfl
/-- The votes of member x. -/
def wat (w : List Int) (x : Int) : Int := vt w (x.toNat - 1)
def lsum (w l : List Int) : Int := (l.map (wat w)).sum
def wsum (w : List Int) (s : Nat) : Int := lsum w (mem s)
theorem wOk_iff {w : List Int} : wOk w = true ↔ 1 ≤ w.length ∧ w.length ≤ 6 ∧ ∀ x ∈ w, 0 ≤ x ∧ x ≤ 9 := by
  simp [wOk, and_assoc]
theorem wOk_at {w : List Int} (h : wOk w = true) (j : Nat) : 0 ≤ vt w j ∧ vt w j ≤ 9 := by
  cases hx : w[j]? with
  | none => rw [vt_none (List.getElem?_eq_none_iff.1 hx)]; omega
  | some x => rw [vt_some hx]; exact (wOk_iff.1 h).2.2 x (List.mem_of_getElem? hx)
theorem wat_rng {w : List Int} (h : wOk w = true) (x : Int) : 0 ≤ wat w x ∧ wat w x ≤ 9 := wOk_at h _
theorem lsum_nil (w : List Int) : lsum w [] = 0 := rfl
theorem lsum_snoc (w l : List Int) (x : Int) : lsum w (l ++ [x]) = lsum w l + wat w x := by simp [lsum]
theorem lsum_take {w l : List Int} {k : Nat} {x : Int} (h : l[k]? = some x) : lsum w (l.take (k + 1)) = lsum w (l.take k) + wat w x := by
  rw [List.take_add_one, h]
  exact lsum_snoc _ _ _
theorem lsum_rng {w : List Int} (h : wOk w = true) (l : List Int) : 0 ≤ lsum w l ∧ lsum w l ≤ 9 * l.length := by
  induction l with
  | nil => simp [lsum]
  | cons x l ih =>
    have := wat_rng h x
    simp only [lsum, List.map_cons, List.sum_cons, List.length_cons] at ih ⊢
    omega
theorem take_len6 {l : List Int} (hl : l.length ≤ 6) (k : Nat) : (l.take k).length ≤ 6 := Nat.le_trans (List.length_take_le' k l) hl
theorem lsum_rng6 {w l : List Int} (h : wOk w = true) (hl : l.length ≤ 6) (k : Nat) : 0 ≤ lsum w (l.take k) ∧ lsum w (l.take k) ≤ 54 := by
  have := lsum_rng h (l.take k)
  have := take_len6 hl k
  omega
theorem wsum_rng {w : List Int} (h : wOk w = true) (s : Nat) : 0 ≤ wsum w s ∧ wsum w s ≤ 54 := by
  have := lsum_rng h (mem s)
  have := mem_len s
  unfold wsum
  omega
theorem sum_filter (p : Int → Bool) (f : Int → Int) (l : List Int) : ((l.filter p).map f).sum = (l.map fun x => if p x = true then f x else 0).sum := by
  induction l with
  | nil => rfl
  | cons x l ih =>
    cases h : p x
    · rw [List.filter_cons_of_neg (by simp [h]), List.map_cons, List.sum_cons, ih]
      simp [h]
    · rw [List.filter_cons_of_pos h, List.map_cons, List.map_cons, List.sum_cons, List.sum_cons, ih]
      simp [h]
/-- What the member with bit j adds. -/
def tm (w : List Int) (s j : Nat) : Int := if Nat.testBit s j = true then vt w j else 0
theorem wsum_six (w : List Int) (s : Nat) : wsum w s = tm w s 0 + tm w s 1 + tm w s 2 + tm w s 3 + tm w s 4 + tm w s 5 := by
  rw [wsum, lsum, mem, sum_filter]
  show tm w s 0 + (tm w s 1 + (tm w s 2 + (tm w s 3 + (tm w s 4 + (tm w s 5 + 0))))) = _
  omega
theorem tm_rng {w : List Int} (h : wOk w = true) (s j : Nat) : 0 ≤ tm w s j ∧ tm w s j ≤ 9 := by
  unfold tm
  split
  · exact wOk_at h j
  · omega
theorem bit_63 {j : Nat} (h : j < 6) : Nat.testBit 63 j = true := by
  have H : ∀ j : Fin 6, Nat.testBit 63 j.val = true := by decide +kernel
  exact H ⟨j, h⟩
theorem tm_disj {w : List Int} (h : wOk w = true) {a b j : Nat} (hj : j < 6) (h0 : a &&& b = 0) : tm w a j + tm w b j ≤ tm w 63 j := by
  have h1 : (Nat.testBit a j && Nat.testBit b j) = false := by rw [← Nat.testBit_and, h0]; simp
  have := wOk_at h j
  unfold tm
  rw [bit_63 hj]
  cases ha : Nat.testBit a j
  · cases hb : Nat.testBit b j <;> simp <;> omega
  · rw [ha] at h1
    simp at h1
    rw [h1]
    simp
/-- Disjoint sets have no more votes than there are. -/
theorem wsum_disj {w : List Int} (h : wOk w = true) {a b : Nat} (h0 : a &&& b = 0) : wsum w a + wsum w b ≤ wsum w 63 := by
  rw [wsum_six, wsum_six, wsum_six]
  have := tm_disj h (j := 0) (by omega) h0
  have := tm_disj h (j := 1) (by omega) h0
  have := tm_disj h (j := 2) (by omega) h0
  have := tm_disj h (j := 3) (by omega) h0
  have := tm_disj h (j := 4) (by omega) h0
  have := tm_disj h (j := 5) (by omega) h0
  omega
theorem bit_less {m : Nat} (hm : m < 64) {i j : Nat} (hi : i < 6) (hj : j < 6) : Nat.testBit (andNot m (2 ^ i)) j = (Nat.testBit m j && !decide (i = j)) := by
  have H : ∀ m : Fin 64, ∀ i j : Fin 6, Nat.testBit (andNot m.val (2 ^ i.val)) j.val = (Nat.testBit m.val j.val && !decide (i.val = j.val)) := by decide +kernel
  exact H ⟨m, hm⟩ ⟨i, hi⟩ ⟨j, hj⟩
theorem tm_less {w : List Int} {m : Nat} (hm : m < 64) {i j : Nat} (hi : i < 6) (hj : j < 6) : tm w (andNot m (2 ^ i)) j = if i = j then 0 else tm w m j := by
  unfold tm
  rw [bit_less hm hi hj]
  by_cases e : i = j <;> simp [e]
/-- Without member x of the set. -/
theorem wsum_less {w : List Int} {m : Nat} (hm : m < 64) {x : Int} (hx : x ∈ mem m) : wsum w (less m x) = wsum w m - wat w x := by
  obtain ⟨h1, h2⟩ := List.mem_filter.1 hx
  have hx6 : 1 ≤ x ∧ x ≤ 6 := by
    simp at h1
    omega
  have hi : x.toNat - 1 < 6 := by omega
  have hw : wat w x = tm w m (x.toNat - 1) := by unfold wat tm; rw [h2]; simp
  unfold less
  rw [wsum_six, wsum_six, hw]
  generalize x.toNat - 1 = i at *
  rw [tm_less hm hi (by omega), tm_less hm hi (by omega), tm_less hm hi (by omega), tm_less hm hi (by omega), tm_less hm hi (by omega), tm_less hm hi (by omega)]
  have : i = 0 ∨ i = 1 ∨ i = 2 ∨ i = 3 ∨ i = 4 ∨ i = 5 := by omega
  rcases this with rfl | rfl | rfl | rfl | rfl | rfl <;> simp <;> omega
/-- More members, no fewer votes. -/
theorem wsum_mono {w : List Int} (h : wOk w = true) {a b : Nat} (ha : a < 64) (hb : b < 64) (hs : sub a b = true) : wsum w a ≤ wsum w b := by
  rw [sub_and ha hb] at hs
  have key : ∀ j, tm w a j ≤ tm w b j := by
    intro j
    have := wOk_at h j
    unfold tm
    cases h1 : Nat.testBit a j
    · simp; split <;> omega
    · have : Nat.testBit b j = true := by
        rw [← hs, Nat.testBit_and] at h1
        simp at h1
        exact h1.2
      rw [this]
      simp
  rw [wsum_six, wsum_six]
  have := key 0
  have := key 1
  have := key 2
  have := key 3
  have := key 4
  have := key 5
  omega

/-- The members with votes among the first k. -/
def posT (w : List Int) : Nat → Nat
  | 0 => 0
  | k + 1 => if 0 < vt w k then posT w k ||| 2 ^ k else posT w k
theorem posT_bit (w : List Int) (j : Nat) : ∀ k, Nat.testBit (posT w k) j = (decide (j < k) && decide (0 < vt w j)) := by
  intro k
  induction k with
  | zero => simp [posT]
  | succ k ih =>
    unfold posT
    by_cases h : 0 < vt w k
    · rw [if_pos h, Nat.testBit_or, ih, Nat.testBit_two_pow]
      by_cases e : k = j
      · subst e; simp [h]
      · have : (j < k + 1) ↔ j < k := by omega
        simp [e, this]
    · rw [if_neg h, ih]
      by_cases e : k = j
      · subst e; simp [h]
      · have : (j < k + 1) ↔ j < k := by omega
        simp [this]
theorem posT_lt (w : List Int) : ∀ k, k ≤ 6 → posT w k < 64 := by
  intro k
  induction k with
  | zero => intro _; simp [posT]
  | succ k ih =>
    intro hk
    have h1 := ih (by omega)
    unfold posT
    split
    · have H : ∀ a : Fin 64, ∀ k : Fin 6, a.val ||| 2 ^ k.val < 64 := by decide +kernel
      exact H ⟨_, h1⟩ ⟨k, by omega⟩
    · exact h1
/-- The members without votes do not matter. -/
theorem wsum_pos {w : List Int} (h : wOk w = true) (s : Nat) : wsum w (posT w w.length &&& s) = wsum w s := by
  have key : ∀ j, tm w (posT w w.length &&& s) j = tm w s j := by
    intro j
    unfold tm
    rw [Nat.testBit_and, posT_bit]
    cases hb : Nat.testBit s j
    · simp
    · by_cases hj : j < w.length
      · by_cases hp : 0 < vt w j
        · simp only [hj, hp, decide_true, Bool.and_self]
        · have := wOk_at h j
          have e : vt w j = 0 := by omega
          rw [e]
          simp
      · have e : vt w j = 0 := vt_none (by omega)
        rw [e]
        simp
  rw [wsum_six, wsum_six, key, key, key, key, key, key]
/-- The votes that have been read: six numbers. -/
def vts (w : List Int) (k : Nat) : List Int := (List.range 6).map fun j => if j < k then vt w j else 0
theorem vts_at (w : List Int) (k j : Nat) (hj : j < 6) : (vts w k)[j]? = some (if j < k then vt w j else 0) := by
  simp [vts, hj]
theorem vts_len (w : List Int) (k : Nat) : (vts w k).length = 6 := by simp [vts]
theorem vts_set {w : List Int} {k : Nat} {x : Int} (hx : w[k]? = some x) (hk : k < 6) : (vts w k).set k x = vts w (k + 1) := by
  apply List.ext_getElem?
  intro j
  rw [List.getElem?_set]
  by_cases h6 : j < 6
  · rw [vts_at _ _ _ h6, vts_at _ _ _ h6, vts_len]
    have hg : vt w k = x := vt_some hx
    by_cases e : k = j
    · subst e
      simp [hk, hg]
    · have : (j < k + 1) ↔ j < k := by omega
      simp [e, this]
  · rw [if_neg (by omega), List.getElem?_eq_none (by rw [vts_len]; omega), List.getElem?_eq_none (by rw [vts_len]; omega)]
theorem vts_zero {w : List Int} {k : Nat} (hx : w[k]? = some 0) : vts w (k + 1) = vts w k := by
  unfold vts
  refine List.map_congr_left fun j hj => ?_
  by_cases e : j = k
  · subst e
    have hg : vt w j = 0 := vt_some hx
    simp [hg]
  · have : (j < k + 1) ↔ j < k := by omega
    simp [this]

/-- The sets with enough votes. -/
def eno (w : List Int) (n : Int) (s : Nat) : Bool := decide (n ≤ wsum w s)
def enoL (w : List Int) (n : Int) : List Nat := (List.range 64).filter (eno w n)
def wfOk (w : List Int) (n : Int) : Bool := wOk w && decide (1 ≤ n) && decide (n ≤ wsum w 63)
def sumR (w l : List Int) : Int := if wOk w = true ∧ vld l = true then lsum w l else -1
def majR (w : List Int) : Int := if wOk w = true then wsum w 63 / 2 + 1 else 0
theorem enoL_msk (w : List Int) (n : Int) : Msk (enoL w n) := fun _ hq => List.mem_range.1 (List.mem_filter.1 hq).1
theorem mem_enoL {w : List Int} {n : Int} {s : Nat} : s ∈ enoL w n ↔ s < 64 ∧ n ≤ wsum w s := by simp [enoL, eno]
theorem wsum_zero (w : List Int) : wsum w 0 = 0 := by rw [wsum_six]; simp [tm]
theorem enoL_sys {w : List Int} {n : Int} (h : wfOk w n = true) : Sys (mins (enoL w n)) := by
  refine mins_sys (enoL_msk w n) fun h0 => ?_
  simp only [wfOk, Bool.and_eq_true, decide_eq_true_eq] at h
  have := (mem_enoL.1 h0).2
  rw [wsum_zero] at this
  omega
theorem lsum_msk {w l : List Int} (h : vld l = true) : lsum w l = wsum w (msk l) := by rw [wsum, mem_msk h]
/-- Of a minimal set with enough votes: it has them, with one member less it has not, and that member has votes. -/
theorem eno_tight {w : List Int} {n : Int} {m : Nat} {x : Int} (hm : m ∈ mins (enoL w n)) (hx : x ∈ mem m) : n ≤ wsum w m ∧ wsum w (less m x) < n ∧ wat w x ≠ 0 := by
  have hM := enoL_msk w n
  obtain ⟨h1, h2⟩ := (mem_mins hM).1 hm
  obtain ⟨h3, h4⟩ := mem_enoL.1 h1
  have hl64 : less m x < 64 := Nat.lt_of_le_of_lt Nat.and_le_left h3
  have h5 : wsum w (less m x) < n := by
    by_cases h : wsum w (less m x) < n
    · exact h
    · exfalso
      have h6 := less_of hl64 h3 hx (sub_refl hl64)
      exact h6.2 (h2 _ (mem_enoL.2 ⟨hl64, by omega⟩) h6.1)
  refine ⟨h4, h5, fun e => ?_⟩
  rw [wsum_less h3 hx, e] at h5
  omega
/-- Two weighted majorities meet. -/
theorem maj_meet {w : List Int} (hw : wOk w = true) {n : Int} {a b : Nat} (hn : majR w ≤ n) (ha : a ∈ mins (enoL w n)) (hb : b ∈ mins (enoL w n)) : a &&& b ≠ 0 := by
  intro h0
  have hM := enoL_msk w n
  have h1 := (mem_enoL.1 ((mem_mins hM).1 ha).1).2
  have h2 := (mem_enoL.1 ((mem_mins hM).1 hb).1).2
  have h3 := wsum_disj hw h0
  rw [majR, if_pos hw] at hn
  omega
end Go.Proofs.Ytgbijndfpbcjeaa
