/- Measures of quorum systems: resilience and transversals, availability and duality, critical members; no program. -/
import Derived.Test.YtngacjfoldgjpaaGreatDoorMetg
import Derived.Test.YtngacjfoldgjpaaGreatDoorWTwiceg
import Derived.Test.YtngacjfoldgjpaaGreatDoorWTransLg
namespace Go.Proofs.YtngacjfoldgjpaaGreatDoor

/-- What the search for the worst failure has found. -/
theorem wst_min (K : List Nat) (n : Nat) : ∀ k, (∀ m, m < k → badB K (fst n) m = true → wst K n k ≤ (mem m).length) ∧ (wst K n k = n ∨ ∃ m, m < k ∧ badB K (fst n) m = true ∧ wst K n k = (mem m).length)
  | 0 => ⟨fun m h => by omega, .inl rfl⟩
  | k + 1 => by
    obtain ⟨h1, h2⟩ := wst_min K n k
    cases hb : badB K (fst n) k with
    | true =>
      have e : wst K n (k + 1) = min (wst K n k) (mem k).length := by rw [wst, if_pos hb]
      refine ⟨fun m hm hbm => ?_, ?_⟩
      · rcases Nat.lt_or_ge m k with h | h
        · have := h1 m h hbm; omega
        · obtain rfl : m = k := by omega
          omega
      · rcases Nat.le_total (wst K n k) (mem k).length with h | h
        · rw [e, Nat.min_eq_left h]
          exact h2.imp id fun ⟨m, a, b, c⟩ => ⟨m, by omega, b, c⟩
        · rw [e, Nat.min_eq_right h]
          exact .inr ⟨k, by omega, hb, rfl⟩
    | false =>
      have e : wst K n (k + 1) = wst K n k := by rw [wst, if_neg (by rw [hb]; simp)]
      rw [e]
      refine ⟨fun m hm hbm => ?_, h2.imp id fun ⟨m, a, b, c⟩ => ⟨m, by omega, b, c⟩⟩
      rcases Nat.lt_or_ge m k with h | h
      · exact h1 m h hbm
      · obtain rfl : m = k := by omega
        rw [hb] at hbm; cases hbm

/-- Counting by a filter. -/
theorem cntQ_filter (K : List Nat) (N : Nat) : ∀ k, cntQ K N k = ((List.range k).filter (avQ K N)).length
  | 0 => rfl
  | k + 1 => by
    rw [List.range_succ, List.filter_append, List.length_append, cntQ, cntQ_filter K N k]
    cases h : avQ K N k <;> simp [h]
theorem sub_63 {m : Nat} (h : m < 64) : sub m 63 = true := by
  have H : ∀ m : Fin 64, sub m.val 63 = true := by decide +kernel
  exact H ⟨m, h⟩
theorem comp_63 {m : Nat} (h : m < 64) : andNot 63 m = 63 - m := by
  have H : ∀ m : Fin 64, andNot 63 m.val = 63 - m.val := by decide +kernel
  exact H ⟨m, h⟩
theorem comp_range : (List.range 64).map (fun m => 63 - m) = (List.range 64).reverse := by decide +kernel
theorem filter_comp (p : Nat → Bool) : ((List.range 64).filter fun m => p (63 - m)).length = ((List.range 64).filter p).length := by
  have h : (((List.range 64).map fun m => 63 - m).filter p).length = ((List.range 64).filter fun m => p (63 - m)).length := by
    rw [List.filter_map, List.length_map]; rfl
  rw [← h, comp_range, List.filter_reverse, List.length_reverse]
theorem filter_split (p : Nat → Bool) (l : List Nat) : (l.filter p).length + (l.filter fun m => !p m).length = l.length := by
  induction l with
  | nil => rfl
  | cons a l ih => cases h : p a <;> simp [h] <;> omega
/-- A set meets every quorum if and only if the others hold none. -/
theorem hits_comp {K : List Nat} (hK : Msk K) {m : Nat} (hm : m < 64) : hitsQ K m = !hasQ K (andNot 63 m) := by
  rw [Bool.eq_iff_iff, hits_iff, Bool.not_eq_true', Bool.eq_false_iff, ne_eq, mem_hasQ]
  constructor
  · rintro h ⟨q, hq, hs⟩
    exact h q hq ((comp_sub (hK q hq) hm).1 hs)
  · intro h q hq e
    exact h ⟨q, hq, (comp_sub (hK q hq) hm).2 e⟩
theorem trans_hasQ {F : List (List Int)} (h : transOk F = true) {m : Nat} (hm : m < 64) : hasQ (msks (outM (transM F) true)) m = !hasQ (msks F) (andNot 63 m) := by
  have hF := famOk_sys (trans_parts h).1
  rw [trans_out, msks_mems (mins_lt _), mins_hasQ (trs_msk _) hm, trs_hasQ hF.1 hm, hits_comp hF.1 hm]
/-- A quorum system and its transversals share all subsets. -/
theorem av_dual {F : List (List Int)} (h : transOk F = true) : cntQ (msks F) 63 64 + cntQ (msks (outM (transM F) true)) 63 64 = 64 := by
  rw [cntQ_filter, cntQ_filter]
  have e1 : (List.range 64).filter (avQ (msks F) 63) = (List.range 64).filter (hasQ (msks F)) := List.filter_congr fun m hm => by
    rw [avQ, sub_63 (List.mem_range.1 hm)]; rfl
  have e2 : (List.range 64).filter (avQ (msks (outM (transM F) true)) 63) = (List.range 64).filter (fun m => !hasQ (msks F) (63 - m)) := List.filter_congr fun m hm => by
    have hm' := List.mem_range.1 hm
    rw [avQ, sub_63 hm', trans_hasQ h hm', comp_63 hm']; rfl
  rw [e1, e2, filter_comp (fun m => !hasQ (msks F) m)]
  have := filter_split (hasQ (msks F)) (List.range 64)
  simpa using this
theorem fit_six {F : List (List Int)} (h : transOk F = true) : fitB F 6 = true := by
  refine fitB_parts.2 ⟨h, by omega, by omega, ?_⟩
  have hF := famOk_sys (trans_parts h).1
  exact List.all_eq_true.2 fun q hq => sub_63 (hF.1 q hq)
end Go.Proofs.YtngacjfoldgjpaaGreatDoor
