/- What the choice of a value is (plain). -/
import Derived.Test.YtndgmglelogegaaAcpL
namespace Go.Proofs.Ytndgmglelogegaa
open Go.RowKit

theorem st_snoc (l : List Ac) (x : Ac) (own : Int) : st (l ++ [x]) own = st1 (st l own) x := by simp [st]
/-- The highest ballot stands at the first that has it, and bounds all. -/
structure Best (l : List Ac) (own : Int) (h o : Int) : Prop where
  pos : 0 ≤ h
  zero : h = 0 → o = own
  top : ∀ x ∈ l, x.2.1 ≤ h
  first : 0 < h → ∃ (k : Nat) (x : Ac), l[k]? = some x ∧ x.2.1 = h ∧ x.2.2 = o ∧ ∀ (j : Nat) (y : Ac), j < k → l[j]? = some y → y.2.1 < h
theorem best_nil (own : Int) : Best [] own 0 own := ⟨by omega, fun _ => rfl, fun x hx => absurd hx (List.not_mem_nil), fun h => by omega⟩
theorem best_snoc {l : List Ac} {own h o : Int} (b : Best l own h o) (x : Ac) : Best (l ++ [x]) own (st1 (h, o) x).1 (st1 (h, o) x).2 := by
  unfold st1
  have hp := b.pos
  by_cases hx : h < x.2.1
  · simp only [hx, if_true]
    refine ⟨by omega, fun e => by omega, fun y hy => ?_, fun _ => ⟨l.length, x, by simp, rfl, rfl, fun j y hj hy => ?_⟩⟩
    · rcases List.mem_append.1 hy with h1 | h1
      · have := b.top y h1; omega
      · simp at h1; subst h1; exact Int.le_refl _
    · rw [List.getElem?_append_left hj] at hy
      have := b.top y (List.mem_of_getElem? hy)
      omega
  · simp only [hx, if_false]
    refine ⟨hp, b.zero, fun y hy => ?_, fun h0 => ?_⟩
    · rcases List.mem_append.1 hy with h1 | h1
      · exact b.top y h1
      · simp at h1; subst h1; omega
    · obtain ⟨k, y, hk, e1, e2, e3⟩ := b.first h0
      have hkl : k < l.length := (List.getElem?_eq_some_iff.1 hk).1
      exact ⟨k, y, by rw [List.getElem?_append_left hkl]; exact hk, e1, e2, fun j z hj hz => e3 j z hj (by rw [List.getElem?_append_left (by omega)] at hz; exact hz)⟩
theorem best_st (l : List Ac) (own : Int) : Best l own (st l own).1 (st l own).2 := by
  have key : ∀ n, n ≤ l.length → Best (l.take n) own (st (l.take n) own).1 (st (l.take n) own).2 := by
    intro n
    induction n with
    | zero => intro _; exact best_nil own
    | succ n ih =>
      intro hn
      have hx : l[n]? = some l[n] := List.getElem?_eq_getElem (by omega)
      rw [List.take_add_one, hx]
      have := best_snoc (ih (by omega)) l[n]
      rw [show ((st (l.take n) own).1, (st (l.take n) own).2) = st (l.take n) own from rfl, ← st_snoc] at this
      exact this
  have := key l.length (Nat.le_refl _)
  rwa [List.take_length] at this
theorem st_max {h o : Int} (x : Ac) : (st1 (h, o) x).1 = max h x.2.1 := by
  unfold st1
  by_cases hx : h < x.2.1
  · simp only [hx, if_true]; omega
  · simp only [hx, if_false]; omega
theorem allA_mem {l : List Ac} (h : allA l = true) {x : Ac} (hx : x ∈ l) : x.ok = true := List.all_eq_true.1 h x hx
theorem best_le {l : List Ac} {own h o : Int} (b : Best l own h o) (ha : allA l = true) : h ≤ 20 := by
  rcases Int.lt_or_le 0 h with h0 | h0
  · obtain ⟨k, x, hk, e1, _⟩ := b.first h0
    have := allA_mem ha (List.mem_of_getElem? hk)
    simp [Ac.ok, okA] at this
    omega
  · omega
theorem chv_yes {l : List Ac} {own r : Int} (h : chv l own = (r, true)) : allA l = true ∧ okV own = true ∧ r = (st l own).2 := by
  unfold chv at h
  by_cases hc : (allA l && okV own) = true
  · rw [if_pos hc] at h
    simp at hc
    injection h with h _
    exact ⟨hc.1, hc.2, h.symm⟩
  · rw [if_neg hc] at h
    injection h with _ h
    cases h
theorem chv_at {l : List Ac} {own : Int} (h1 : allA l = true) (h2 : okV own = true) : chv l own = ((st l own).2, true) := by simp [chv, h1, h2]
/-- A reply that is added at the end and does not stand above. -/
theorem chv_low {l : List Ac} {own r : Int} (h : chv l own = (r, true)) {x : Ac} (hx : x.ok = true) (hl : ¬ (st l own).1 < x.2.1) : chv (l ++ [x]) own = (r, true) := by
  obtain ⟨h1, h2, h3⟩ := chv_yes h
  rw [chv_at (by simp [allA] at *; exact ⟨h1, hx⟩) h2, st_snoc, st1, if_neg hl, h3]
theorem chv_ahead {l : List Ac} {own r : Int} (h : chv l own = (r, true)) : chv ((3, 0, 0) :: l) own = (r, true) := by
  obtain ⟨h1, h2, h3⟩ := chv_yes h
  rw [chv_at (by simp [allA] at *; exact ⟨by decide, h1⟩) h2, h3]
  rfl
/-- No positive ballot stands twice, from the place n on. -/
def Once (l : List Ac) (n : Nat) : Prop := ∀ (j k : Nat) (x y : Ac), n ≤ j → k < j → l[k]? = some x → l[j]? = some y → x.2.1 = y.2.1 → ¬ 0 < y.2.1
theorem once_same {l : List Ac} (ho : Once l 0) {j k : Nat} {x y : Ac} (hj : l[j]? = some y) (hk : l[k]? = some x) (e : x.2.1 = y.2.1) (hp : 0 < y.2.1) : x = y := by
  rcases Nat.lt_trichotomy k j with h | h | h
  · exact absurd hp (ho j k x y (Nat.zero_le _) h hk hj e)
  · subst h; rw [hj] at hk; exact (Option.some.inj hk).symm
  · exact absurd (e ▸ hp) (ho k j y x (Nat.zero_le _) h hj hk e.symm)
theorem chv_rev {l : List Ac} {own r : Int} (h : chv l own = (r, true)) (ho : Once l 0) : chv l.reverse own = (r, true) := by
  obtain ⟨h1, h2, h3⟩ := chv_yes h
  have h1' : allA l.reverse = true := by simp [allA] at *; exact h1
  rw [chv_at h1' h2, h3]
  have b := best_st l own
  have b' := best_st l.reverse own
  have e : (st l.reverse own).1 = (st l own).1 := by
    have le1 : (st l.reverse own).1 ≤ (st l own).1 := by
      rcases Int.lt_or_le 0 (st l.reverse own).1 with q | q
      · obtain ⟨k, x, hk, e1, _⟩ := b'.first q
        have := b.top x (by simpa using List.mem_of_getElem? hk)
        omega
      · have := b.pos; omega
    have le2 : (st l own).1 ≤ (st l.reverse own).1 := by
      rcases Int.lt_or_le 0 (st l own).1 with q | q
      · obtain ⟨k, x, hk, e1, _⟩ := b.first q
        have := b'.top x (by simpa using List.mem_of_getElem? hk)
        omega
      · have := b'.pos; omega
    omega
  congr 1
  rcases Int.lt_or_le 0 (st l own).1 with q | q
  · obtain ⟨k, x, hk, e1, e2, _⟩ := b.first q
    obtain ⟨k', x', hk', e1', e2', _⟩ := b'.first (by omega)
    obtain ⟨j, hj⟩ := List.mem_iff_getElem?.1 (show x' ∈ l by simpa using List.mem_of_getElem? hk')
    have := once_same ho hk hj (by omega) (by omega)
    subst this
    omega
  · have z := b.pos
    rw [b.zero (by omega), b'.zero (by omega)]
/-- The first that has the highest ballot has the value. -/
theorem best_at {l : List Ac} {own h o : Int} (b : Best l own h o) (h0 : 0 < h) {k : Nat} {x : Ac} (hx : l[k]? = some x) (e : x.2.1 = h) (hn : ∀ (j : Nat) (y : Ac), j < k → l[j]? = some y → y.2.1 ≠ h) : x.2.2 = o := by
  obtain ⟨k', x', hk', e1, e2, e3⟩ := b.first h0
  rcases Nat.lt_trichotomy k k' with q | q | q
  · have := e3 k x q hx; omega
  · subst q; rw [hx] at hk'; injection hk' with hk'; subst hk'; exact e2
  · exact absurd e1 (hn k' x' q hk')
theorem best_some {l : List Ac} {own h o : Int} (b : Best l own h o) (h0 : 0 < h) : ¬ ∀ (j : Nat) (y : Ac), j < l.length → l[j]? = some y → y.2.1 ≠ h := by
  intro hn
  obtain ⟨k', x', hk', e1, _⟩ := b.first h0
  exact hn k' x' (List.getElem?_eq_some_iff.1 hk').1 hk' e1
end Go.Proofs.Ytndgmglelogegaa
