/- Heaps as lists, no program: sifting up and down keeps the members and makes the first the least. -/
namespace Go.Proofs.Ytgbijndfpbcjeaa

/-- Two elements change places. -/
def swp (a : List Nat) (i j : Nat) : List Nat := (a.set i (a.getD j 0)).set j (a.getD i 0)
theorem swp_len (a : List Nat) (i j : Nat) : (swp a i j).length = a.length := by simp [swp]
theorem swp_at (a : List Nat) {i j : Nat} (hi : i < a.length) (hj : j < a.length) (k : Nat) : (swp a i j).getD k 0 = if k = j then a.getD i 0 else if k = i then a.getD j 0 else a.getD k 0 := by
  unfold swp
  simp only [List.getD_eq_getElem?_getD, List.getElem?_set, List.length_set]
  by_cases h1 : j = k
  · subst h1; simp [hj]
  · have h1' : ¬ k = j := fun h => h1 h.symm
    simp only [h1, h1', if_false]
    by_cases h2 : i = k
    · subst h2; simp [hi]
    · have h2' : ¬ k = i := fun h => h2 h.symm
      simp [h2, h2']
theorem swp_perm (a : List Nat) {i j : Nat} (hi : i < a.length) (hj : j < a.length) : (swp a i j).Perm a := by
  rw [List.perm_iff_count]
  intro x
  unfold swp
  have e1 : a.getD j 0 = a[j] := by simp [hj]
  have e2 : a.getD i 0 = a[i] := by simp [hi]
  rw [e1, e2, List.count_set (by simpa using hj), List.count_set hi, List.getElem_set]
  have c1 : a[i] = x → 0 < a.count x := fun h => List.count_pos_iff.2 (h ▸ List.getElem_mem hi)
  have c2 : a[j] = x → 0 < a.count x := fun h => List.count_pos_iff.2 (h ▸ List.getElem_mem hj)
  by_cases h : i = j
  · subst h
    simp only [if_true, beq_iff_eq]
    split <;> simp_all <;> omega
  · simp only [h, if_false, beq_iff_eq]
    by_cases h1 : a[i] = x <;> by_cases h2 : a[j] = x <;> simp [h1, h2] <;> (try have := c1 h1) <;> (try have := c2 h2) <;> omega
theorem set_lt {a : List Nat} {B : Nat} (h : ∀ x ∈ a, x < B) {k : Nat} (hk : k < a.length) : a.getD k 0 < B := by
  rw [show a.getD k 0 = a[k] by simp [hk]]
  exact h _ (List.getElem_mem hk)

def HeapN (a : List Nat) (n : Nat) : Prop := ∀ k, 0 < k → k < n → a.getD ((k - 1) / 2) 0 ≤ a.getD k 0
theorem HeapN.root {a : List Nat} {n : Nat} (h : HeapN a n) : ∀ k, k < n → a.getD 0 0 ≤ a.getD k 0 := by
  intro k
  induction k using Nat.strongRecOn with
  | _ k ih =>
    intro hk
    rcases Nat.eq_zero_or_pos k with h0 | h0
    · subst h0; exact Nat.le_refl _
    · exact Nat.le_trans (ih ((k - 1) / 2) (by omega) (by omega)) (h k h0 hk)

/-- A heap but for the element j, which may have to rise. -/
def Up (a : List Nat) (j : Nat) : Prop := j < a.length ∧ (∀ k, 0 < k → k < a.length → k ≠ j → a.getD ((k - 1) / 2) 0 ≤ a.getD k 0) ∧
  (0 < j → ∀ c, 0 < c → c < a.length → (c - 1) / 2 = j → a.getD ((j - 1) / 2) 0 ≤ a.getD c 0)
theorem Up.start {a : List Nat} (h : HeapN a a.length) (s : Nat) : Up (a ++ [s]) a.length := by
  refine ⟨by simp, fun k hk hl hne => ?_, fun _ c hc hl hp => ?_⟩
  · have hl' : k < a.length := by simp at hl; omega
    have := h k hk hl'
    simp only [List.getD_eq_getElem?_getD] at this ⊢
    rw [List.getElem?_append_left (by omega), List.getElem?_append_left hl']
    exact this
  · simp at hl; omega
theorem Up.root {a : List Nat} {j : Nat} (h : Up a j) (hj : j = 0) : HeapN a a.length := fun k hk hl => h.2.1 k hk hl (by omega)
theorem Up.stop {a : List Nat} {j : Nat} (h : Up a j) (hn : a.getD ((j - 1) / 2) 0 ≤ a.getD j 0) : HeapN a a.length := by
  intro k hk hl
  by_cases e : k = j
  · subst e; exact hn
  · exact h.2.1 k hk hl e
theorem Up.step {a : List Nat} {j : Nat} (h : Up a j) (hj : 0 < j) (hlt : a.getD j 0 < a.getD ((j - 1) / 2) 0) : Up (swp a ((j - 1) / 2) j) ((j - 1) / 2) := by
  obtain ⟨hl, hh, hc⟩ := h
  have hi : (j - 1) / 2 < a.length := by omega
  have hij : (j - 1) / 2 ≠ j := by omega
  generalize hI : (j - 1) / 2 = i at *
  refine ⟨by rw [swp_len]; exact hi, fun k hk hkl hne => ?_, fun hi0 c hc0 hcl hcp => ?_⟩
  · rw [swp_len] at hkl
    rw [swp_at a hi hl, swp_at a hi hl]
    by_cases e : k = j
    · subst e
      rw [if_pos rfl, hI, if_neg hij, if_pos rfl]; omega
    · rw [if_neg e, if_neg hne]
      have h1 := hh k hk hkl e
      by_cases e1 : (k - 1) / 2 = j
      · rw [if_pos e1]; exact hc hj k hk hkl e1
      · rw [if_neg e1]
        by_cases e2 : (k - 1) / 2 = i
        · rw [if_pos e2]; rw [e2] at h1; omega
        · rw [if_neg e2]; exact h1
  · rw [swp_len] at hcl
    rw [swp_at a hi hl, swp_at a hi hl]
    have hp : ¬ (i - 1) / 2 = j := by omega
    have hp2 : ¬ (i - 1) / 2 = i := by omega
    rw [if_neg hp, if_neg hp2]
    have h1 := hh i hi0 hi (by omega)
    by_cases e : c = j
    · rw [if_pos e]; exact h1
    · rw [if_neg e, if_neg (by omega)]
      have h2 := hh c hc0 hcl e
      rw [hcp] at h2; omega

/-- A heap of n elements but for the element i, which may have to sink. -/
def Dn (a : List Nat) (n i : Nat) : Prop := n ≤ a.length ∧ (∀ k, 0 < k → k < n → (k - 1) / 2 ≠ i → a.getD ((k - 1) / 2) 0 ≤ a.getD k 0) ∧
  (0 < i → ∀ c, 0 < c → c < n → (c - 1) / 2 = i → a.getD ((i - 1) / 2) 0 ≤ a.getD c 0)
theorem Dn.start {a : List Nat} {n : Nat} (h : HeapN a (n + 1)) (hl : a.length = n + 1) : Dn (swp a 0 n) n 0 := by
  refine ⟨by rw [swp_len]; omega, fun k hk hkn hne => ?_, fun h0 => by omega⟩
  rw [swp_at a (by omega) (by omega), swp_at a (by omega) (by omega), if_neg (by omega), if_neg (by omega), if_neg (by omega), if_neg (by omega)]
  exact h k hk (by omega)
theorem Dn.leaf {a : List Nat} {n i : Nat} (h : Dn a n i) (hn : n ≤ 2 * i + 1) : HeapN a n := fun k hk hkn => h.2.1 k hk hkn (by omega)
/-- The lesser child. -/
def Child (a : List Nat) (n i j : Nat) : Prop := (j = 2 * i + 1 ∨ j = 2 * i + 2) ∧ j < n ∧ ∀ c, 0 < c → c < n → (c - 1) / 2 = i → a.getD j 0 ≤ a.getD c 0
theorem child_l {a : List Nat} {n i : Nat} (h : 2 * i + 1 < n) (h2 : ¬ (2 * i + 2 < n ∧ a.getD (2 * i + 2) 0 < a.getD (2 * i + 1) 0)) : Child a n i (2 * i + 1) := by
  refine ⟨.inl rfl, h, fun c hc hcn hp => ?_⟩
  rcases (show c = 2 * i + 1 ∨ c = 2 * i + 2 by omega) with rfl | rfl
  · exact Nat.le_refl _
  · omega
theorem child_r {a : List Nat} {n i : Nat} (h2 : 2 * i + 2 < n) (h3 : a.getD (2 * i + 2) 0 < a.getD (2 * i + 1) 0) : Child a n i (2 * i + 2) := by
  refine ⟨.inr rfl, h2, fun c hc hcn hp => ?_⟩
  rcases (show c = 2 * i + 1 ∨ c = 2 * i + 2 by omega) with rfl | rfl
  · omega
  · exact Nat.le_refl _
theorem Dn.stop {a : List Nat} {n i j : Nat} (h : Dn a n i) (hc : Child a n i j) (hn : a.getD i 0 ≤ a.getD j 0) : HeapN a n := by
  intro k hk hkn
  by_cases e : (k - 1) / 2 = i
  · rw [e]; exact Nat.le_trans hn (hc.2.2 k hk hkn e)
  · exact h.2.1 k hk hkn e
theorem Dn.step {a : List Nat} {n i j : Nat} (h : Dn a n i) (hc : Child a n i j) (hlt : a.getD j 0 < a.getD i 0) : Dn (swp a i j) n j := by
  obtain ⟨hl, hh, hp⟩ := h
  obtain ⟨hj, hjn, hm⟩ := hc
  have hil : i < a.length := by omega
  have hjl : j < a.length := by omega
  refine ⟨by rw [swp_len]; exact hl, fun k hk hkn hne => ?_, fun hj0 c hc0 hcn hcp => ?_⟩
  · rw [swp_at a hil hjl, swp_at a hil hjl, if_neg hne]
    by_cases e : (k - 1) / 2 = i
    · rw [if_pos e]
      by_cases e1 : k = j
      · rw [if_pos e1]; omega
      · rw [if_neg e1, if_neg (by omega)]; exact hm k hk hkn e
    · rw [if_neg e]
      have h1 := hh k hk hkn e
      by_cases e1 : k = j
      · omega
      · rw [if_neg e1]
        by_cases e2 : k = i
        · rw [if_pos e2]
          subst e2
          exact hp hk j (by omega) hjn (by omega)
        · rw [if_neg e2]; exact h1
  · rw [swp_at a hil hjl, swp_at a hil hjl]
    have e1 : (j - 1) / 2 = i := by omega
    rw [e1, if_neg (by omega), if_pos rfl, if_neg (by omega), if_neg (by omega)]
    have := hh c hc0 hcn (by omega)
    rw [hcp] at this; exact this
theorem swp_far (a : List Nat) {i j n k : Nat} (hn : n ≤ a.length) (hi : i < n) (hj : j < n) (hk : n ≤ k) : (swp a i j).getD k 0 = a.getD k 0 := by
  rw [swp_at a (by omega) (by omega), if_neg (by omega), if_neg (by omega)]

/-- What a sift has done: the same members; what lies behind n is as it was. -/
def Sift (a0 a : List Nat) (n : Nat) : Prop := a.length = a0.length ∧ a.Perm a0 ∧ ∀ k, n ≤ k → a.getD k 0 = a0.getD k 0
theorem Sift.refl (a : List Nat) (n : Nat) : Sift a a n := ⟨rfl, List.Perm.refl _, fun _ _ => rfl⟩
theorem Sift.swap {a0 a : List Nat} {n i j : Nat} (h : Sift a0 a n) (hn : n ≤ a0.length) (hi : i < n) (hj : j < n) : Sift a0 (swp a i j) n :=
  ⟨by rw [swp_len]; exact h.1, (swp_perm a (by rw [h.1]; omega) (by rw [h.1]; omega)).trans h.2.1, fun k hk => by rw [swp_far a (by rw [h.1]; exact hn) hi hj hk]; exact h.2.2 k hk⟩
theorem Sift.lt {a0 a : List Nat} {n B : Nat} (h : Sift a0 a n) (h0 : ∀ x ∈ a0, x < B) : ∀ x ∈ a, x < B := fun x hx => h0 x (h.2.1.mem_iff.1 hx)

/-- What a pop hands back. -/
theorem popped {a b : List Nat} {n : Nat} (hl : a.length = n + 1) (hh : HeapN a (n + 1)) (hs : Sift (swp a 0 n) b n) (hb : HeapN b n) :
    b.length = n + 1 ∧ b.getD n 0 = a.getD 0 0 ∧ a.Perm (a.getD 0 0 :: b.take n) ∧ HeapN (b.take n) (b.take n).length ∧ ∀ x ∈ b.take n, a.getD 0 0 ≤ x := by
  have hbl : b.length = n + 1 := by rw [hs.1, swp_len]; exact hl
  have hbn : b.getD n 0 = a.getD 0 0 := by
    rw [hs.2.2 n (Nat.le_refl _), swp_at a (by omega) (by omega), if_pos rfl]
  have hperm : a.Perm (a.getD 0 0 :: b.take n) := by
    have h1 : b.Perm a := hs.2.1.trans (swp_perm a (by omega) (by omega))
    have h2 : b = b.take n ++ [b.getD n 0] := by
      conv => lhs; rw [← List.take_append_drop n b]
      congr 1
      rw [List.drop_eq_getElem_cons (by omega), List.drop_of_length_le (by omega)]
      simp [hbl]
    rw [hbn] at h2
    refine h1.symm.trans ?_
    rw [h2]
    refine List.Perm.trans List.perm_append_comm ?_
    simp [hbl]
  refine ⟨hbl, hbn, hperm, ?_, ?_⟩
  · intro k hk hkl
    have hkn : k < n := by simp at hkl; omega
    have := hb k hk hkn
    simp only [List.getD_eq_getElem?_getD] at this ⊢
    rw [List.getElem?_take_of_lt hkn, List.getElem?_take_of_lt (by omega)]
    exact this
  · intro x hx
    have hxa : x ∈ a := hperm.mem_iff.2 (by simp [hx])
    obtain ⟨k, hk, e⟩ := List.getElem_of_mem hxa
    have := hh.root k (by omega)
    rw [show a.getD k 0 = x by simp [hk, e]] at this
    exact this
end Go.Proofs.Ytgbijndfpbcjeaa
