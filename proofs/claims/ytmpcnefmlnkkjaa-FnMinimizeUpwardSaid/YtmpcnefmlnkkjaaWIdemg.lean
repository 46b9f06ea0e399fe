/- The walk of the law that minimizing a quorum system changes nothing. -/
import Derived.Test.YtmpcnefmlnkkjaaDrawOg
import Derived.Test.YtmpcnefmlnkkjaaGd
namespace Go.Proofs.Ytmpcnefmlnkkjaa
open Go.RowKit

theorem minIn_iff {F : List (List Int)} : minIn F = true ↔ F.length ≤ 64 ∧ ∀ l ∈ F, vld l = true ∧ 0 < msk l := by
  simp [minIn]
theorem minOut_t {F : List (List Int)} (h : minIn F = true) : minOut F = mems (mins (msks F)) := by simp [minOut, h]
theorem min_idem {F : List (List Int)} (h : minIn F = true) : minIn (minOut F) = true ∧ minOut (minOut F) = minOut F := by
  obtain ⟨_, h2⟩ := minIn_iff.1 h
  have hM : Msk (msks F) := msks_msk fun l hl => (h2 l hl).1
  have h3 : minIn (minOut F) = true := by
    rw [minOut_t h]
    refine minIn_iff.2 ⟨by rw [mems_len]; exact mins_len _, fun l hl => ?_⟩
    obtain ⟨m, hm, rfl⟩ := List.mem_map.1 hl
    have hm6 := mins_lt _ m hm
    obtain ⟨l', hl', e⟩ := List.mem_map.1 ((mem_mins hM).1 hm).1
    refine ⟨vld_mem hm6, ?_⟩
    rw [msk_mem hm6, ← e]
    exact (h2 l' hl').2
  refine ⟨h3, ?_⟩
  rw [minOut_t h3, minOut_t h, msks_mems (mins_lt _), mins_mins hM]
theorem min_same {F G : List (List Int)} (h : minIn F = true) (hG : ∀ l, l ∈ G ↔ l ∈ F) (hl : G.length ≤ 64) : minIn G = true ∧ minOut G = minOut F := by
  obtain ⟨_, h2⟩ := minIn_iff.1 h
  have h3 : minIn G = true := minIn_iff.2 ⟨hl, fun l hl => h2 l ((hG l).1 hl)⟩
  refine ⟨h3, ?_⟩
  rw [minOut_t h3, minOut_t h, mins_same (S := msks G) (T := msks F)]
  intro m
  unfold msks
  rw [List.mem_map, List.mem_map]
  exact ⟨fun ⟨l, h4, h5⟩ => ⟨l, (hG l).1 h4, h5⟩, fun ⟨l, h4, h5⟩ => ⟨l, (hG l).2 h4, h5⟩⟩
theorem back_mem {F G : List (List Int)} {m : Nat} {l : List Int} (hx : F[m]? = some l) (h : ∀ a, a ∈ G ↔ a ∈ F.drop (m + 1)) : ∀ a, a ∈ G ++ [l, l] ↔ a ∈ F.drop m := by
  intro a
  rw [drop_l hx, List.mem_append, List.mem_cons, h a]
  simp
  constructor
  · rintro (h1 | h1)
    · exact .inr h1
    · exact .inl h1
  · rintro (h1 | h1)
    · exact .inr h1
    · exact .inl h1

/-- The values of a row of slices read as lists. -/
def Reads (w : World) (G : List (List Int)) (xs : List Value) : Prop := xs.length = G.length ∧ ∀ (j : Nat) l, G[j]? = some l → ∃ B d, xs[j]? = some (.slice B l.length d) ∧ IL w B l
theorem Reads.below {w w' : World} {G : List (List Int)} {xs : List Value} (h : Reads w G xs) (hb : Below w.heap.size w w') : Reads w' G xs :=
  ⟨h.1, fun j l hl => by obtain ⟨B, d, h1, h2⟩ := h.2 j l hl; exact ⟨B, d, h1, h2.below hb⟩⟩
theorem Reads.two {w : World} {G : List (List Int)} {xs : List Value} {l : List Int} {B : Option Addr} {d : Nat} (h : Reads w G xs) (hl : IL w B l) : Reads w (G ++ [l, l]) (xs ++ [.slice B l.length d, .slice B l.length d]) := by
  refine ⟨by simp [h.1], fun j a ha => ?_⟩
  rcases Nat.lt_or_ge j G.length with hj | hj
  · rw [List.getElem?_append_left hj] at ha
    obtain ⟨B', d', h1, h2⟩ := h.2 j a ha
    exact ⟨B', d', by rw [List.getElem?_append_left (by rw [h.1]; exact hj)]; exact h1, h2⟩
  · rw [List.getElem?_append_right hj] at ha
    rw [List.getElem?_append_right (by rw [h.1]; exact hj), h.1]
    generalize j - G.length = i at *
    have : i = 0 ∨ i = 1 := by
      have := (List.getElem?_eq_some_iff.1 ha).1
      simp at this
      omega
    rcases this with rfl | rfl
    · simp at ha; subst ha; exact ⟨B, d, rfl, hl⟩
    · simp at ha; subst ha; exact ⟨B, d, rfl, hl⟩
theorem two_oneCell (A : Option Addr) (n c : Nat) : ∀ u ∈ [Value.slice A n c, Value.slice A n c], u.oneCell' = true := by
  intro u hu
  simp at hu
  subst hu
  rfl

end Go.Proofs.Ytmpcnefmlnkkjaa
