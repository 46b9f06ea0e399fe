/- Sums and products of quorum systems as masks, no program: what they contain, and the laws of absorption. -/
import Derived.Test.YtmpcnefmlnkkjaaGd
import Derived.Test.YtmpcnefmlnkkjaaGa
namespace Go.Proofs.Ytmpcnefmlnkkjaa

theorem sub_or (a b s : Nat) : sub (a ||| b) s = (sub a s && sub b s) := by
  unfold sub andNot
  rw [Nat.and_or_distrib_right, Bool.eq_iff_iff, Bool.and_eq_true, beq_iff_eq, beq_iff_eq, beq_iff_eq]
  exact Nat.or_eq_zero_iff
theorem hasQ_eith (F G : List (List Int)) (s : Nat) : hasQ (eithM F G) s = (hasQ (msks F) s || hasQ (msks G) s) := by simp [eithM, hasQ]
theorem hasQ_both (F G : List (List Int)) (s : Nat) : hasQ (bothM F G) s = (hasQ (msks F) s && hasQ (msks G) s) := by
  rw [Bool.eq_iff_iff, Bool.and_eq_true, mem_hasQ, mem_hasQ, mem_hasQ]
  constructor
  · rintro ⟨q, hq, hs⟩
    obtain ⟨a, ha, h5⟩ := List.mem_flatMap.1 hq
    obtain ⟨b, hb, rfl⟩ := List.mem_map.1 h5
    rw [sub_or, Bool.and_eq_true] at hs
    exact ⟨⟨a, ha, hs.1⟩, ⟨b, hb, hs.2⟩⟩
  · rintro ⟨⟨a, ha, h1⟩, ⟨b, hb, h2⟩⟩
    exact ⟨a ||| b, List.mem_flatMap.2 ⟨a, ha, List.mem_map.2 ⟨b, hb, rfl⟩⟩, by rw [sub_or, h1, h2]; rfl⟩
theorem eith_msk {F G : List (List Int)} (hF : Sys (msks F)) (hG : Sys (msks G)) : Msk (eithM F G) ∧ 0 ∉ eithM F G := by
  refine ⟨fun q hq => ?_, fun h0 => ?_⟩
  · rcases List.mem_append.1 hq with h | h
    · exact hF.1 q h
    · exact hG.1 q h
  · rcases List.mem_append.1 h0 with h | h
    · have := hF.2.2.2 0 h; omega
    · have := hG.2.2.2 0 h; omega
theorem both_msk {F G : List (List Int)} (hF : Sys (msks F)) (hG : Sys (msks G)) : Msk (bothM F G) ∧ 0 ∉ bothM F G := by
  refine ⟨fun q hq => ?_, fun h0 => ?_⟩
  · obtain ⟨a, ha, h5⟩ := List.mem_flatMap.1 hq
    obtain ⟨b, hb, rfl⟩ := List.mem_map.1 h5
    exact or_lt (hF.1 a ha) (hG.1 b hb)
  · obtain ⟨a, ha, h5⟩ := List.mem_flatMap.1 h0
    obtain ⟨b, hb, e⟩ := List.mem_map.1 h5
    have := Nat.or_eq_zero_iff.1 e
    have := hF.2.2.2 a ha
    omega
/-- What such a function hands back is a quorum system again. -/
theorem out_fam {M : List Nat} (hM : Msk M) (h0 : 0 ∉ M) : famOk (outM M true) = true ∧ ∀ s, s < 64 → hasQ (msks (outM M true)) s = hasQ M s := by
  have e : outM M true = mems (mins M) := by simp [outM]
  rw [e]
  refine ⟨sys_famOk (mins_sys hM h0), fun s hs => ?_⟩
  rw [msks_mems (mins_lt M), mins_hasQ hM hs]
theorem bothOk_iff {F G : List (List Int)} : bothOk F G = true ↔ famOk F = true ∧ famOk G = true := by simp [bothOk]
/-- A collection that contains what F contains has F's sets as its minimal ones. -/
theorem out_same {F : List (List Int)} (h : famOk F = true) {M : List Nat} (hM : Msk M) (hs : ∀ s, s < 64 → hasQ M s = hasQ (msks F) s) : outM M true = F := by
  have hF := famOk_sys h
  have e : outM M true = mems (mins M) := by simp [outM]
  rw [e, mins_congr hM hF.1 hs, mins_self hF.1 hF.2.1 hF.2.2.1]
  exact mems_msks (famOk_allV h)
theorem self_laws {F : List (List Int)} (h : famOk F = true) : bothOk F F = true ∧ outM (bothM F F) true = F ∧ outM (eithM F F) true = F := by
  have hF := famOk_sys h
  refine ⟨bothOk_iff.2 ⟨h, h⟩, out_same h (both_msk hF hF).1 fun s _ => ?_, out_same h (eith_msk hF hF).1 fun s _ => ?_⟩
  · rw [hasQ_both, Bool.and_self]
  · rw [hasQ_eith, Bool.or_self]
theorem absorb_laws {F G : List (List Int)} (h : bothOk F G = true) :
    bothOk F (outM (bothM F G) true) = true ∧ outM (eithM F (outM (bothM F G) true)) true = F ∧ bothOk F (outM (eithM F G) true) = true ∧ outM (bothM F (outM (eithM F G) true)) true = F := by
  obtain ⟨h1, h2⟩ := bothOk_iff.1 h
  have hF := famOk_sys h1
  have hG := famOk_sys h2
  obtain ⟨b1, b2⟩ := out_fam (both_msk hF hG).1 (both_msk hF hG).2
  obtain ⟨e1, e2⟩ := out_fam (eith_msk hF hG).1 (eith_msk hF hG).2
  refine ⟨bothOk_iff.2 ⟨h1, b1⟩, out_same h1 (eith_msk hF (famOk_sys b1)).1 fun s hs => ?_, bothOk_iff.2 ⟨h1, e1⟩, out_same h1 (both_msk hF (famOk_sys e1)).1 fun s hs => ?_⟩
  · rw [hasQ_eith, b2 s hs, hasQ_both]
    cases hasQ (msks F) s <;> rfl
  · rw [hasQ_both, e2 s hs, hasQ_eith]
    cases hasQ (msks F) s <;> rfl
end Go.Proofs.Ytmpcnefmlnkkjaa
