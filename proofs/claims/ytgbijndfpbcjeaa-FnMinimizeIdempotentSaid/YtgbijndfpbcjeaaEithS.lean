/- The reference model's sums and products of quorum systems, by their contracts. -/
import Derived.Test.YtgbijndfpbcjeaaMinT
import Derived.Test.YtgbijndfpbcjeaaEith
import Derived.Test.YtgbijndfpbcjeaaSpecU
import Derived.Deep.AppendLies
namespace Go.Proofs.Ytgbijndfpbcjeaa
open Go.RowKit

/-- The cells of a slice of slices. -/
theorem ISS.cells {w : World} {ad : Addr} {F : List (List Int)} (h : ISS w (some ad) F) :
    ∃ vs : List Value, vs.length = F.length ∧ (∀ j u, vs[j]? = some u → w.cell? (ad.add j) = some u) ∧ (∀ u ∈ vs, u.oneCell' = true) ∧ ∀ (j : Nat) l, F[j]? = some l → ∃ B d, vs[j]? = some (.slice B l.length d) ∧ IL w B l := by
  rcases h with rfl | ⟨b, off, e, hlt, hc⟩
  · exact ⟨[], rfl, by simp, by simp, by simp⟩
  · injection e with e
    subst e
    have : ∀ n, n ≤ F.length → ∃ vs : List Value, vs.length = n ∧ (∀ j u, vs[j]? = some u → w.cell? ((⟨b, off, none⟩ : Addr).add j) = some u) ∧ (∀ u ∈ vs, u.oneCell' = true) ∧ ∀ (j : Nat) l, j < n → F[j]? = some l → ∃ B d, vs[j]? = some (.slice B l.length d) ∧ IL w B l := by
      intro n
      induction n with
      | zero => intro _; exact ⟨[], rfl, by simp, by simp, by intro j l h; omega⟩
      | succ n ih =>
        intro hn
        obtain ⟨vs, h1, h2, h3, h4⟩ := ih (by omega)
        obtain ⟨B, d, h5, h6⟩ := hc n F[n] (List.getElem?_eq_getElem (by omega))
        refine ⟨vs ++ [.slice B F[n].length d], by simp [h1], fun j u hu => ?_, fun u hu => ?_, fun j l hj hl => ?_⟩
        · rcases Nat.lt_or_ge j vs.length with h | h
          · rw [List.getElem?_append_left h] at hu; exact h2 j u hu
          · rw [List.getElem?_append_right h] at hu
            have hj : j = n := by
              have := (List.getElem?_eq_some_iff.1 hu).1
              simp at this; omega
            subst hj
            simp [h1] at hu
            subst hu
            rw [Addr.add_lit]
            exact h5
        · rcases List.mem_append.1 hu with h | h
          · exact h3 u h
          · simp at h; subst h; rfl
        · rcases Nat.lt_or_ge j n with h | h
          · obtain ⟨B', d', h7, h8⟩ := h4 j l h hl
            exact ⟨B', d', by rw [List.getElem?_append_left (by omega)]; exact h7, h8⟩
          · have hj' : j = n := by omega
            subst hj'
            have hl' : l = F[j] := by rw [List.getElem?_eq_getElem (by omega)] at hl; exact (Option.some.inj hl).symm
            subst hl'
            exact ⟨B, d, by rw [List.getElem?_append_right (by omega)]; simp [h1], h6⟩
    obtain ⟨vs, h1, h2, h3, h4⟩ := this F.length (Nat.le_refl _)
    exact ⟨vs, h1, h2, h3, fun j l hl => h4 j l (List.getElem?_eq_some_iff.1 hl).1 hl⟩
/-- A row of slices reads as the lists that they read as. -/
theorem iss_own {w : World} {base n c : Nat} {e : TypeId} {A : Option Addr} {F : List (List Int)} {xs : List Value} (ho : w.ownsRow base e 1 (.slice A n c) n xs) (hn : n = F.length) (hx : ∀ (j : Nat) l, F[j]? = some l → ∃ B d, xs[j]? = some (.slice B l.length d) ∧ IL w B l) : ISS w A F := by
  rcases ho.2 with ⟨h0, h1⟩ | ⟨g, cap, cur, hv, hb, hg, _⟩
  · left; exact List.eq_nil_of_length_eq_zero (by omega)
  · injection hv with hA _ hcc
    subst hA
    refine .inr ⟨g, 0, rfl, (Array.getElem?_eq_some_iff.1 hg).1, fun j l hl => ?_⟩
    obtain ⟨B, d, h1, h2⟩ := hx j l hl
    refine ⟨B, d, ?_, h2⟩
    have := ho.cells (g := g) rfl j _ h1
    rw [Addr.add_lit] at this
    exact this
theorem allV_app {F G : List (List Int)} (hF : allV F) (hG : allV G) : allV (F ++ G) := fun l hl => (List.mem_append.1 hl).elim (hF l) (hG l)
theorem short_app {F G : List (List Int)} {n : Nat} (hF : Short F n) (hG : Short G n) : Short (F ++ G) n := fun l hl => (List.mem_append.1 hl).elim (hF l) (hG l)
theorem msks_app (F G : List (List Int)) : msks (F ++ G) = msks F ++ msks G := by simp [msks]

end Go.Proofs.Ytgbijndfpbcjeaa
