/- Measures of quorum systems: the facts behind the laws on resilience, smallest quorums, critical members and survival; no program. -/
import Derived.Test.YtngacjfoldgjpaaGreatDoorMetLg
import Derived.Test.YtngacjfoldgjpaaGreatDoorWHasQLg
namespace Go.Proofs.YtngacjfoldgjpaaGreatDoor

theorem len_sub {a b : Nat} (ha : a < 64) (hb : b < 64) (h : sub a b = true) : (mem a).length ≤ (mem b).length := by
  have H : ∀ a : Fin 64, ∀ b : Fin 64, sub a.val b.val = true → (mem a.val).length ≤ (mem b.val).length := by decide +kernel
  exact H ⟨a, ha⟩ ⟨b, hb⟩ h
theorem hasQ_zero {K : List Nat} (h : Sys K) : hasQ K 0 = false := by
  rw [Bool.eq_false_iff, ne_eq, mem_hasQ]
  rintro ⟨q, hq, hs⟩
  have h1 := sub_le (h.1 q hq) (by omega) hs
  have h2 := h.2.2.2 q hq
  omega
theorem andNot_self' {n : Nat} (h : n ≤ 6) : andNot (fst n) (fst n) = 0 := by
  have H : ∀ n : Fin 7, andNot (fst n.val) (fst n.val) = 0 := by decide
  exact H ⟨n, by omega⟩
theorem bad_all {K : List Nat} (h : Sys K) {n : Nat} (hn : n ≤ 6) : badB K (fst n) (fst n) = true := by
  rw [badB, sub_refl (fst_lt hn), andNot_self' hn, hasQ_zero h]; rfl
/-- Some set of as many failed members as the search found leaves no quorum; no smaller one does. -/
theorem wst_hit {K : List Nat} (h : Sys K) {n : Nat} (hn : n ≤ 6) : ∃ m, m < 64 ∧ badB K (fst n) m = true ∧ (mem m).length = wst K n 64 := by
  obtain ⟨h1, h2⟩ := wst_min K n 64
  rcases h2 with h2 | ⟨m, a, b, c⟩
  · exact ⟨fst n, fst_lt hn, bad_all h hn, by rw [h2, fst_len hn]⟩
  · exact ⟨m, a, b, c.symm⟩
theorem bad_63 {K : List Nat} (hK : Msk K) {m : Nat} (hm : m < 64) : badB K (fst 6) m = hitsQ K m := by
  have e : fst 6 = 63 := rfl
  rw [badB, e, sub_63 hm, hits_comp hK hm]; rfl

/-- The least length in a row of sets. -/
theorem sml_all (F : List (List Int)) : ∀ k, k ≤ F.length → 0 < F.length → (∀ (j : Nat) l, j < k → F[j]? = some l → sml F k ≤ l.length) ∧ ∃ (j : Nat) (l : List Int), j < F.length ∧ F[j]? = some l ∧ sml F k = l.length
  | 0, _, h0 => ⟨fun j l h => by omega, 0, F[0], h0, List.getElem?_eq_getElem h0, by cases F with | nil => simp at h0 | cons a F => rfl⟩
  | k + 1, hk, h0 => by
    obtain ⟨h1, j0, l0, hj, hl, he⟩ := sml_all F k (by omega) h0
    have hx : F[k]? = some F[k] := List.getElem?_eq_getElem (by omega)
    rw [sml_succ hx]
    refine ⟨fun j l hj hl => ?_, ?_⟩
    · rcases Nat.lt_or_ge j k with h | h
      · have := h1 j l h hl; omega
      · obtain rfl : j = k := by omega
        rw [hx] at hl
        injection hl with hl
        subst hl
        omega
    · rcases Nat.le_total (sml F k) F[k].length with h | h
      · exact ⟨j0, l0, hj, hl, by rw [Nat.min_eq_left h]; exact he⟩
      · exact ⟨k, F[k], by omega, hx, Nat.min_eq_right h⟩

/-- Resilience is one less than the smallest transversal. -/
theorem res_trans {F : List (List Int)} (h : transOk F = true) : wst (msks F) 6 64 = sml (outM (transM F) true) (outM (transM F) true).length := by
  have hF := famOk_sys (trans_parts h).1
  have h2 := trans_ok2 h
  simp only [transOk, Bool.and_eq_true, decide_eq_true_eq] at h2
  obtain ⟨s1, j, l, hj, hl, he⟩ := sml_all (outM (transM F) true) _ (Nat.le_refl _) h2.2
  have row : ∀ {j : Nat} {l : List Int}, (outM (transM F) true)[j]? = some l → ∃ q, q ∈ mins (trs (msks F)) ∧ l = mem q := fun {j l} hl => by
    have := List.mem_of_getElem? hl
    rw [trans_out] at this
    obtain ⟨q, hq, e⟩ := List.mem_map.1 this
    exact ⟨q, hq, e.symm⟩
  apply Nat.le_antisymm
  · obtain ⟨q, hq, rfl⟩ := row hl
    have hq6 := mins_lt _ q hq
    have hb : badB (msks F) (fst 6) q = true := by rw [bad_63 hF.1 hq6]; exact (mem_trs.1 ((mem_mins (trs_msk _)).1 hq).1).2
    rw [he]
    exact (wst_min (msks F) 6 64).1 q hq6 hb
  · obtain ⟨m, hm, hb, e⟩ := wst_hit hF (n := 6) (by omega)
    rw [bad_63 hF.1 hm] at hb
    obtain ⟨q, hq, hs⟩ := mins_below (trs_msk (msks F)) m m (Nat.le_refl _) (mem_trs.2 ⟨hm, hb⟩)
    have hin : mem q ∈ outM (transM F) true := by rw [trans_out]; exact List.mem_map.2 ⟨q, hq, rfl⟩
    obtain ⟨i, hi⟩ := List.mem_iff_getElem?.1 hin
    have h3 := s1 i (mem q) (List.getElem?_eq_some_iff.1 hi).1 hi
    have h4 := len_sub (mins_lt _ q hq) hm hs
    omega

/-- What all quorums have in common. -/
theorem has_inter (a b : List Int) (x : Int) : has (inter a b) x = (has a x && has b x) := by
  rw [Bool.eq_iff_iff, Bool.and_eq_true, has_mem, has_mem, has_mem]
  unfold inter
  rw [List.mem_filter, has_mem]
theorem has_crt {F : List (List Int)} (x : Int) (h0 : 0 < F.length) : ∀ k, k ≤ F.length → (has (crt F k) x = true ↔ has (F.headD []) x = true ∧ ∀ (j : Nat) l, j < k → F[j]? = some l → has l x = true)
  | 0, _ => ⟨fun h => ⟨h, fun j l hj => by omega⟩, fun h => h.1⟩
  | k + 1, hk => by
    have hx : F[k]? = some F[k] := List.getElem?_eq_getElem (by omega)
    rw [crt_succ hx, has_inter, Bool.and_eq_true, has_crt x h0 k (by omega)]
    constructor
    · rintro ⟨⟨h1, h2⟩, h3⟩
      refine ⟨h1, fun j l hj hl => ?_⟩
      rcases Nat.lt_or_ge j k with h | h
      · exact h2 j l h hl
      · obtain rfl : j = k := by omega
        rw [hx] at hl
        injection hl with hl
        exact hl ▸ h3
    · rintro ⟨h1, h2⟩
      exact ⟨⟨h1, fun j l hj hl => h2 j l (by omega) hl⟩, h2 k _ (by omega) hx⟩
theorem crt_all {F : List (List Int)} (h : transOk F = true) (x : Int) : has (crtR F) x = true ↔ ∀ l ∈ F, has l x = true := by
  have hT := h
  simp only [transOk, Bool.and_eq_true, decide_eq_true_eq] at h
  rw [crtR, if_pos hT, has_crt x h.2 _ (Nat.le_refl _)]
  constructor
  · rintro ⟨_, h2⟩ l hl
    obtain ⟨j, hj⟩ := List.mem_iff_getElem?.1 hl
    exact h2 j l (List.getElem?_eq_some_iff.1 hj).1 hj
  · intro h2
    refine ⟨?_, fun j l _ hl => h2 l (List.mem_of_getElem? hl)⟩
    cases F with
    | nil => simp at h
    | cons a F => exact h2 a (by simp)

/-- Survival is monotone, and resilience tells of it. -/
theorem surv_mono {F : List (List Int)} {s t : List Int} (hs : vld s = true) (ht : vld t = true) (hst : sub (msk t) (msk s) = true) (h : srvR F s = true) : srvR F t = true := by
  simp only [srvR, Bool.and_eq_true] at h ⊢
  obtain ⟨⟨h1, _⟩, h3⟩ := h
  refine ⟨⟨h1, ht⟩, hasQ_up (famOk_sys h1).1 (comp_lt _) (comp_lt _) ?_ h3⟩
  have H : ∀ a : Fin 64, ∀ b : Fin 64, sub b.val a.val = true → sub (andNot 63 a.val) (andNot 63 b.val) = true := by decide +kernel
  exact H ⟨msk s, msk_lt hs⟩ ⟨msk t, msk_lt ht⟩ hst
theorem surv_res {F : List (List Int)} (h : transOk F = true) {s : List Int} (hs : vld s = true) (hl : (s.length : Int) ≤ resR F 6) : srvR F s = true := by
  have hf := (trans_parts h).1
  have hF := famOk_sys hf
  have h6 := msk_lt hs
  rw [resR, if_pos (fit_six h)] at hl
  rw [srvR, hf, hs]
  cases hq : hasQ (msks F) (andNot 63 (msk s)) with
  | true => rfl
  | false =>
    have hb : badB (msks F) (fst 6) (msk s) = true := by rw [bad_63 hF.1 h6, hits_comp hF.1 h6, hq]; rfl
    have h1 := (wst_min (msks F) 6 64).1 (msk s) h6 hb
    rw [mem_msk hs] at h1
    have e : ((6 : Int).toNat) = 6 := rfl
    rw [e] at hl
    omega
end Go.Proofs.YtngacjfoldgjpaaGreatDoor
