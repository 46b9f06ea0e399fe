/- Plain facts on lists of integers, no program: valid member sets, their masks, and that there are 64 of them. -/
namespace Go.Proofs.Ytimijinldhpmfaa

/-- Ascending members above p, at most 6. -/
def vf : Int → List Int → Bool
  | _, [] => true
  | p, x :: xs => decide (p < x) && decide (x ≤ 6) && vf x xs
def vld (l : List Int) : Bool := vf 0 l
/-- The mask that a scan reaches from the mask m on. -/
def mk : Nat → List Int → Nat
  | m, [] => m
  | m, x :: xs => mk (m ||| 2 ^ (x.toNat - 1)) xs
def msk (l : List Int) : Nat := mk 0 l
/-- The members of a mask. -/
def mem (m : Nat) : List Int := ([1, 2, 3, 4, 5, 6] : List Int).filter fun x => Nat.testBit m (x.toNat - 1)

/-- All ascending lists above p, for p from 6 down. -/
def lists : Nat → List (List Int)
  | 0 => [[]]
  | k + 1 => lists k ++ (lists k).map fun t => ((6 - k : Nat) : Int) :: t
def allSets : List (List Int) := lists 6

theorem lists_nil (k : Nat) : [] ∈ lists k := by
  induction k with
  | zero => simp [lists]
  | succ k ih => simp [lists, ih]
theorem lists_cons : ∀ k : Nat, k ≤ 6 → ∀ j : Nat, j < k → ∀ t ∈ lists j, (((6 - j : Nat) : Int) :: t) ∈ lists k := by
  intro k
  induction k with
  | zero => intro _ j hj; omega
  | succ k ih =>
    intro hk j hj t ht
    simp only [lists, List.mem_append, List.mem_map]
    rcases Nat.lt_or_ge j k with h | h
    · exact .inl (ih (by omega) j h t ht)
    · obtain rfl : j = k := by omega
      exact .inr ⟨t, ht, rfl⟩
theorem vf_lists (l : List Int) : ∀ p : Nat, p ≤ 6 → vf (p : Int) l = true → l ∈ lists (6 - p) := by
  induction l with
  | nil => intro p _ _; exact lists_nil _
  | cons x xs ih =>
    intro p hp h
    simp only [vf, Bool.and_eq_true, decide_eq_true_eq] at h
    obtain ⟨⟨h1, h2⟩, h3⟩ := h
    obtain ⟨n, rfl⟩ := Int.eq_ofNat_of_zero_le (show 0 ≤ x by omega)
    have := lists_cons (6 - p) (by omega) (6 - n) (by omega) xs (ih n (by omega) h3)
    rwa [show 6 - (6 - n) = n by omega] at this
theorem vld_all {l : List Int} (h : vld l = true) : l ∈ allSets := vf_lists l 0 (by omega) h
theorem all_of {P : List Int → Prop} (h : ∀ l ∈ allSets, P l) {l : List Int} (hv : vld l = true) : P l := h l (vld_all hv)

theorem vld_len {l : List Int} (h : vld l = true) : l.length ≤ 6 := all_of (P := fun l => l.length ≤ 6) (by decide +kernel) h
theorem msk_lt {l : List Int} (h : vld l = true) : msk l < 64 := all_of (P := fun l => msk l < 64) (by decide +kernel) h
theorem mem_msk {l : List Int} (h : vld l = true) : mem (msk l) = l := all_of (P := fun l => mem (msk l) = l) (by decide +kernel) h
theorem vld_mem {m : Nat} (h : m < 64) : vld (mem m) = true := by
  have H : ∀ m : Fin 64, vld (mem m.val) = true := by decide +kernel
  exact H ⟨m, h⟩

def has (l : List Int) (x : Int) : Bool := l.contains x
def union (a b : List Int) : List Int := ([1, 2, 3, 4, 5, 6] : List Int).filter fun x => has a x || has b x
def inter (a b : List Int) : List Int := a.filter fun x => has b x
def minus (a b : List Int) : List Int := a.filter fun x => !has b x
def subs (a b : List Int) : Bool := a.all fun x => has b x
def pairs : List (List Int × List Int) := allSets.flatMap fun a => allSets.map fun b => (a, b)
theorem pair_of {P : List Int → List Int → Prop} (h : ∀ l ∈ allSets, ∀ k ∈ allSets, P l k) {l k : List Int} (hv : vld l = true) (hk : vld k = true) : P l k := h l (vld_all hv) k (vld_all hk)
theorem union_msk {a b : List Int} (ha : vld a = true) (hb : vld b = true) : mem (msk a ||| msk b) = union a b :=
  pair_of (P := fun a b => mem (msk a ||| msk b) = union a b) (by decide +kernel) ha hb
theorem inter_msk {a b : List Int} (ha : vld a = true) (hb : vld b = true) : mem (msk a &&& msk b) = inter a b :=
  pair_of (P := fun a b => mem (msk a &&& msk b) = inter a b) (by decide +kernel) ha hb
def andNot (m n : Nat) : Nat := m &&& (255 - n)
theorem minus_msk {a b : List Int} (ha : vld a = true) (hb : vld b = true) : mem (andNot (msk a) (msk b)) = minus a b :=
  pair_of (P := fun a b => mem (andNot (msk a) (msk b)) = minus a b) (by decide +kernel) ha hb
theorem subs_msk {a b : List Int} (ha : vld a = true) (hb : vld b = true) : (andNot (msk a) (msk b) == 0) = subs a b :=
  pair_of (P := fun a b => (andNot (msk a) (msk b) == 0) = subs a b) (by decide +kernel) ha hb
theorem cont_msk {l : List Int} (h : vld l = true) (x : Int) : (decide (1 ≤ x) && decide (x ≤ 6) && Nat.testBit (msk l) (x.toNat - 1)) = has l x := by
  unfold has
  have H : ∀ l ∈ allSets, ∀ x ∈ ([1, 2, 3, 4, 5, 6] : List Int), Nat.testBit (msk l) (x.toNat - 1) = l.contains x := by decide +kernel
  have H2 : ∀ l ∈ allSets, ∀ y ∈ l, (1 : Int) ≤ y ∧ y ≤ 6 := by decide +kernel
  by_cases h1 : 1 ≤ x ∧ x ≤ 6
  · have hx : x ∈ ([1, 2, 3, 4, 5, 6] : List Int) := by simp; omega
    simp [h1.1, h1.2, H l (vld_all h) x hx]
  · have : l.contains x = false := by
      rw [Bool.eq_false_iff]; intro hc
      exact h1 (H2 l (vld_all h) x (by simpa using hc))
    rw [this]; simp; omega
/-- The sum of the bits, as the model adds them. -/
def bsum (l : List Int) : Int := l.foldr (fun x s => s + ((2 ^ (x.toNat - 1) : Nat) : Int)) 0
theorem bsum_msk {l : List Int} (h : vld l = true) : bsum l = (msk l : Int) := all_of (P := fun l => bsum l = (msk l : Int)) (by decide +kernel) h
/-- A set operation, empty where an operand is invalid. -/
def both (f : List Int → List Int → List Int) (a b : List Int) : List Int := if vld a = true ∧ vld b = true then f a b else []
theorem both_t {f : List Int → List Int → List Int} {a b : List Int} (ha : vld a = true) (hb : vld b = true) : both f a b = f a b := by simp [both, ha, hb]
theorem both_fa {f : List Int → List Int → List Int} {a b : List Int} (ha : vld a = false) : both f a b = [] := by simp [both, ha]
theorem both_fb {f : List Int → List Int → List Int} {a b : List Int} (hb : vld b = false) : both f a b = [] := by simp [both, hb]
def subsR (a b : List Int) : Bool := vld a && vld b && subs a b
def hasR (l : List Int) (x : Int) : Bool := vld l && has l x
def mskR (l : List Int) : Int := if vld l = true then (msk l : Int) else -1
def memR (m : Int) : List Int := if 0 ≤ m ∧ m ≤ 63 then mem m.toNat else []
def memOk (m : Int) : Bool := decide (0 ≤ m ∧ m ≤ 63)
theorem bsum_bd {l : List Int} (h : vld l = true) (k : Nat) : 0 ≤ bsum (l.drop k) ∧ bsum (l.drop k) ≤ 63 := by
  have H : ∀ l ∈ allSets, ∀ k : Fin 7, 0 ≤ bsum (l.drop k.val) ∧ bsum (l.drop k.val) ≤ 63 := by decide +kernel
  rcases Nat.lt_or_ge k 7 with hk | hk
  · exact H l (vld_all h) ⟨k, hk⟩
  · rw [List.drop_of_length_le (by have := vld_len h; omega)]; simp [bsum]
theorem bsum_cons (x : Int) (t : List Int) : bsum (x :: t) = bsum t + ((2 ^ (x.toNat - 1) : Nat) : Int) := rfl
theorem vld_at {l : List Int} (h : vld l = true) {k : Nat} {x : Int} (hx : l[k]? = some x) : 1 ≤ x ∧ x ≤ 6 := by
  have H : ∀ l ∈ allSets, ∀ y ∈ l, (1 : Int) ≤ y ∧ y ≤ 6 := by decide +kernel
  exact H l (vld_all h) x (List.mem_of_getElem? hx)
theorem union_len (a b : List Int) : (union a b).length ≤ 6 := Nat.le_trans (List.length_filter_le _ _) (by decide)
theorem inter_len (a b : List Int) : (inter a b).length ≤ a.length := List.length_filter_le _ _
theorem minus_len (a b : List Int) : (minus a b).length ≤ a.length := List.length_filter_le _ _
theorem mem_len (m : Nat) : (mem m).length ≤ 6 := Nat.le_trans (List.length_filter_le _ _) (by decide)
theorem both_len {f : List Int → List Int → List Int} (hf : ∀ a b, vld a = true → (f a b).length ≤ 6) (a b : List Int) : (both f a b).length ≤ 6 := by
  unfold both; split
  · rename_i h; exact hf a b h.1
  · simp
theorem memR_len (m : Int) : (memR m).length ≤ 6 := by unfold memR; split; exact mem_len _; simp
end Go.Proofs.Ytimijinldhpmfaa
