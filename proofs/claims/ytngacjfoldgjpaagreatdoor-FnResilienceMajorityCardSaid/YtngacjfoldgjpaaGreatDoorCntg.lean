/- Counts of sets by their sizes, no program. -/
import Derived.Test.YtngacjfoldgjpaaGreatDoorMetNg
namespace Go.Proofs.YtngacjfoldgjpaaGreatDoor

def bump (u : Nat → Nat) (k : Nat) : Nat → Nat := fun j => if j = k then u j + 1 else u j
def cntL (p : Nat → Bool) (l : List Nat) (j : Nat) : Nat := (l.filter fun m => p m && decide ((mem m).length = j)).length
def sum7 (u : Nat → Nat) : Nat := u 0 + u 1 + u 2 + u 3 + u 4 + u 5 + u 6
section
variable {p : Nat → Bool} {l : List Nat} {x : Nat}
theorem cntL_nil (p : Nat → Bool) : cntL p [] = fun _ => 0 := rfl
theorem cntL_yes (h : p x = true) : cntL p (l ++ [x]) = bump (cntL p l) (mem x).length := by
  funext j
  unfold cntL bump
  by_cases e : j = (mem x).length
  · subst e; simp [List.filter_append, h]
  · have e2 : (mem x).length ≠ j := fun h => e h.symm
    simp [List.filter_append, e, e2]
theorem cntL_no (h : p x = false) : cntL p (l ++ [x]) = cntL p l := by
  funext j
  simp [cntL, List.filter_append, h]
theorem cntL_le (p : Nat → Bool) (l : List Nat) (j : Nat) : cntL p l j ≤ l.length := List.length_filter_le _ _
theorem cntL_pos {j : Nat} : cntL p l j ≠ 0 ↔ ∃ m ∈ l, p m = true ∧ (mem m).length = j := by
  unfold cntL
  rw [ne_eq, List.length_eq_zero_iff, List.filter_eq_nil_iff]
  constructor
  · intro h
    apply Classical.byContradiction
    intro h2
    apply h
    intro m hm h3
    simp only [Bool.and_eq_true, decide_eq_true_eq] at h3
    exact h2 ⟨m, hm, h3.1, h3.2⟩
  · rintro ⟨m, hm, h1, h2⟩ h
    exact h m hm (by simp [h1, h2])
end
theorem sum7_cnt (p : Nat → Bool) (l : List Nat) : sum7 (cntL p l) = (l.filter p).length := by
  induction l with
  | nil => rfl
  | cons x l ih =>
    have hl := mem_len x
    have e : ∀ j, cntL p (x :: l) j = (if p x = true ∧ (mem x).length = j then 1 else 0) + cntL p l j := by
      intro j
      unfold cntL
      rw [List.filter_cons]
      by_cases h : p x = true ∧ (mem x).length = j
      · obtain ⟨h1, h2⟩ := h
        simp [h1, h2]; omega
      · rw [if_neg h, if_neg (by simpa using h)]; omega
    unfold sum7 at *
    rw [e, e, e, e, e, e, e, List.filter_cons]
    generalize (mem x).length = y at *
    cases hp : p x
    · simp; omega
    · have hy : y = 0 ∨ y = 1 ∨ y = 2 ∨ y = 3 ∨ y = 4 ∨ y = 5 ∨ y = 6 := by omega
      rcases hy with rfl | rfl | rfl | rfl | rfl | rfl | rfl <;> simp <;> omega
theorem range_first {n : Nat} (hn : n ≤ 6) : (List.range 64).filter (fun m => sub m (fst n)) = List.range (2 ^ n) := by
  have H : ∀ n : Fin 7, (List.range 64).filter (fun m => sub m (fst n.val)) = List.range (2 ^ n.val) := by decide +kernel
  exact H ⟨n, by omega⟩
/-- The subsets that have a quorum, counted by size. -/
theorem av_cnt (K : List Nat) {n : Nat} (hn : n ≤ 6) : sum7 (cntL (hasQ K) (List.range (2 ^ n))) = cntQ K (fst n) 64 := by
  rw [sum7_cnt, cntQ_filter, ← range_first hn, List.filter_filter]
  congr 1
  exact List.filter_congr fun m _ => by rw [avQ, Bool.and_comm]
theorem pow_le {n : Nat} (hn : n ≤ 6) : 2 ^ n ≤ 64 := by
  have H : ∀ n : Fin 7, 2 ^ n.val ≤ 64 := by decide
  exact H ⟨n, by omega⟩
theorem first_comp {n m : Nat} (hn : n ≤ 6) (hm : m < 64) (h : sub m (fst n) = true) : andNot (fst n) m < 2 ^ n ∧ (mem (andNot (fst n) m)).length + (mem m).length = n ∧ andNot (fst n) (andNot (fst n) m) = m := by
  have H : ∀ n : Fin 7, ∀ m : Fin 64, sub m.val (fst n.val) = true → andNot (fst n.val) m.val < 2 ^ n.val ∧ (mem (andNot (fst n.val) m.val)).length + (mem m.val).length = n.val ∧ andNot (fst n.val) (andNot (fst n.val) m.val) = m.val := by decide +kernel
  exact H ⟨n, by omega⟩ ⟨m, hm⟩ h
theorem first_sub {n m : Nat} (hn : n ≤ 6) (hm : m < 2 ^ n) : sub m (fst n) = true ∧ sub (andNot (fst n) m) (fst n) = true := by
  have H : ∀ n : Fin 7, ∀ m : Fin 64, m.val < 2 ^ n.val → sub m.val (fst n.val) = true ∧ sub (andNot (fst n.val) m.val) (fst n.val) = true := by decide +kernel
  exact H ⟨n, by omega⟩ ⟨m, Nat.lt_of_lt_of_le hm (pow_le hn)⟩ hm
/-- The largest set without a quorum leaves the smallest failure that leaves none. -/
theorem wst_cnt {K : List Nat} (hK : Sys K) {n k : Nat} (hn : n ≤ 6) (h1 : k = 0 ∨ cntL (fun m => !hasQ K m) (List.range (2 ^ n)) (k - 1) ≠ 0) (h2 : ∀ j, k ≤ j → j < 7 → cntL (fun m => !hasQ K m) (List.range (2 ^ n)) j = 0) : (n : Int) - ((k : Int) - 1) - 1 = (wst K n 64 : Int) - 1 := by
  have hpos : k ≠ 0 := by
    rintro rfl
    refine (cntL_pos (l := List.range (2 ^ n)) (j := 0) (p := fun m => !hasQ K m)).2 ⟨0, List.mem_range.2 (Nat.two_pow_pos n), by simp [hasQ_zero hK], rfl⟩ (h2 0 (Nat.le_refl _) (by omega))
  rcases h1 with h1 | h1
  · exact absurd h1 hpos
  obtain ⟨r, hr, hr1, hr2⟩ := cntL_pos.1 h1
  have hr := List.mem_range.1 hr
  have hr64 := Nat.lt_of_lt_of_le hr (pow_le hn)
  obtain ⟨s1, s2⟩ := first_sub hn hr
  obtain ⟨c1, c2, c3⟩ := first_comp hn hr64 s1
  have hb : badB K (fst n) (andNot (fst n) r) = true := by
    rw [badB, s2, c3]; simpa using hr1
  have hle := (wst_min K n 64).1 _ (andNot_lt (fst_lt hn)) hb
  obtain ⟨m, hm, hbm, hml⟩ := wst_hit hK hn
  simp only [badB, Bool.and_eq_true, Bool.not_eq_true'] at hbm
  obtain ⟨d1, d2, d3⟩ := first_comp hn hm hbm.1
  have hge : ¬ (k ≤ (mem (andNot (fst n) m)).length) := fun hk => by
    refine cntL_pos.2 ⟨andNot (fst n) m, List.mem_range.2 d1, by simp [hbm.2], rfl⟩ (h2 _ hk (by have := mem_len (andNot (fst n) m); omega))
  omega

/-- The least size of a quorum. -/
theorem sml_cnt {F : List (List Int)} (h : transOk F = true) {k : Nat} (h1 : k < 7 → cntL (fun _ => true) (msks F) k ≠ 0) (h2 : ∀ j, j < k → cntL (fun _ => true) (msks F) j = 0) : k < 7 ∧ (k : Int) = smlR F := by
  obtain ⟨hf, hne⟩ := trans_parts h
  have hV := famOk_allV hf
  have hl := (trans_len h).2
  obtain ⟨s1, j, l, hj, hx, he⟩ := sml_all F F.length (Nat.le_refl _) hl
  have hm := row_mem hV (List.mem_of_getElem? hx)
  have hk : ¬ (l.length < k) := fun hk => by
    refine cntL_pos.2 ⟨msk l, hm.1, rfl, rfl⟩ (h2 _ (by rw [hm.2.1]; exact hk))
  have hl6 := vld_len (hV l (List.mem_of_getElem? hx))
  have hk7 : k < 7 := by omega
  refine ⟨hk7, ?_⟩
  obtain ⟨m, hmm, _, hml⟩ := cntL_pos.1 (h1 hk7)
  obtain ⟨l', hl', rfl⟩ := List.mem_map.1 hmm
  obtain ⟨i, hi⟩ := List.mem_iff_getElem?.1 hl'
  have := s1 i l' (Array.getElem?_eq_some_iff.1 (by rw [List.getElem?_toArray]; exact hi)).1 hi
  rw [(row_mem hV hl').2.1] at hml
  rw [smlR, if_pos h]
  omega
theorem sml_none {k : Nat} (h1 : k < 7 → cntL (fun _ => true) [] k ≠ 0) : ¬ k < 7 := fun h => h1 h rfl

/-- What all quorums have in common. -/
def andAll (K : List Nat) : Nat → Nat
  | 0 => 63
  | k + 1 => andAll K k &&& K.getD k 0
theorem andAll_lt (K : List Nat) : ∀ k, andAll K k < 64
  | 0 => by show 63 < 64; omega
  | k + 1 => Nat.lt_of_le_of_lt Nat.and_le_left (andAll_lt K k)
theorem andAll_succ {K : List Nat} {k m : Nat} (h : K[k]? = some m) : andAll K (k + 1) = andAll K k &&& m := by
  simp [andAll, List.getD_eq_getElem?_getD, h]
theorem and_63 {m : Nat} (h : m < 64) : 63 &&& m = m := by
  have H : ∀ m : Fin 64, 63 &&& m.val = m.val := by decide +kernel
  exact H ⟨m, h⟩
theorem crt_and {F : List (List Int)} (h : transOk F = true) : crtR F = mem (andAll (msks F) (msks F).length) := by
  obtain ⟨hf, hne⟩ := trans_parts h
  have hV := famOk_allV hf
  have hl := (trans_len h).2
  rw [crtR, if_pos h]
  have H : ∀ k, k + 1 ≤ F.length → crt F (k + 1) = mem (andAll (msks F) (k + 1)) := by
    intro k
    induction k with
    | zero =>
      intro _
      have hx : F[0]? = some F[0] := List.getElem?_eq_getElem hl
      have hm := row_mem hV (List.getElem_mem hl)
      have hx2 : (msks F)[0]? = some (msk F[0]) := by simp [msks, hx]
      rw [andAll_succ hx2, crt_one h]
      show _ = mem (63 &&& _)
      rw [and_63 hm.2.2, hm.2.1]
      cases F with
      | nil => simp at hl
      | cons a F => rfl
    | succ k ih =>
      intro hk
      have hx : F[k + 1]? = some F[k + 1] := List.getElem?_eq_getElem (by omega)
      have hm := row_mem hV (List.getElem_mem (l := F) (n := k + 1) (by omega))
      have hx2 : (msks F)[k + 1]? = some (msk F[k + 1]) := by simp [msks, hx]
      rw [crt_succ hx, andAll_succ hx2, ih (by omega)]
      have ha := andAll_lt (msks F) (k + 1)
      rw [← inter_msk (vld_mem ha) (hV _ (List.getElem_mem (l := F) (n := k + 1) (by omega))), msk_mem ha]
  have hml : (msks F).length = F.length := by simp [msks]
  rw [hml]
  obtain ⟨k, hk⟩ : ∃ k, F.length = k + 1 := ⟨F.length - 1, by omega⟩
  rw [hk]
  exact H k (by omega)
theorem crtR_len (F : List (List Int)) : (crtR F).length ≤ 6 := by
  cases h : transOk F
  · simp [crtR, h]
  · rw [crt_and h]; exact mem_len _
end Go.Proofs.YtngacjfoldgjpaaGreatDoor
