/- Logs: what is valid, the configuration of a slot, commands; plain. -/
import Derived.Test.YtimijinldhpmfaaEnA
namespace Go.Proofs.Ytimijinldhpmfaa
open Go.RowKit

def okE (n : Int) (x : En) : Bool := if x.2 = 0 then okV x.1 else decide (x.1 = 0 ∧ 1 ≤ x.2 ∧ x.2 ≤ n)
def okN (n : Int) : Bool := decide (1 ≤ n ∧ n ≤ 5)
def allE (n : Int) (l : List En) : Bool := l.all (okE n)
def okL (l : List En) (n : Int) : Bool := allE n l && okN n && decide (l.length ≤ 12)
def pre1 (c : Int) (x : En) : Int := if 0 < x.2 then x.2 else c
def pre (l : List En) : Int := l.foldl pre1 1
def conf (l : List En) (s : Int) : Int := pre (l.take (s - 1).toNat)
def lconf (l : List En) (n s : Int) : Int := if okL l n = true ∧ 0 ≤ s ∧ s ≤ (l.length : Int) + 1 then conf l s else 0
def lapp (l : List En) (n : Int) (e : En) : List En × Bool := if okL l n = true ∧ okE n e = true then (if 12 ≤ l.length then (l, false) else (l ++ [e], true)) else ([], false)
def lopen (l : List En) (n : Int) : List Int := if okL l n then [conf l l.length, conf l ((l.length : Int) + 1)] else []
def vals (l : List En) : List Int := (l.filter fun x => x.2 == 0).map (·.1)
def lvals (l : List En) (n : Int) : List Int := if okL l n then vals l else []

theorem allE_take {n : Int} {l : List En} {k : Nat} {x : En} (h : l[k]? = some x) : allE n (l.take (k + 1)) = (allE n (l.take k) && okE n x) := by
  rw [List.take_add_one, h]
  simp [allE]
theorem allE_no {n : Int} {l : List En} {k : Nat} {x : En} (h : l[k]? = some x) (hx : okE n x = false) : allE n l = false := by
  rw [Bool.eq_false_iff]
  intro ha
  have := List.all_eq_true.1 ha x (List.mem_of_getElem? h)
  rw [hx] at this
  cases this
theorem okL_no {n : Int} {l : List En} {k : Nat} {x : En} (h : l[k]? = some x) (hx : okE n x = false) : okL l n = false := by simp [okL, allE_no h hx]
theorem okL_big {n : Int} {l : List En} (h : ¬ l.length ≤ 12) : okL l n = false := by simp [okL, h]
theorem okL_n {n : Int} {l : List En} (h : okN n = false) : okL l n = false := by simp [okL, h]
theorem okL_yes {n : Int} {l : List En} (h : allE n l = true) (h1 : okN n = true) (h2 : l.length ≤ 12) : okL l n = true := by simp [okL, h, h1, h2]
theorem okL_parts {n : Int} {l : List En} (h : okL l n = true) : allE n l = true ∧ okN n = true ∧ l.length ≤ 12 := by simpa [okL, and_assoc] using h
theorem okN_iff {n : Int} : okN n = true ↔ 1 ≤ n ∧ n ≤ 5 := by simp [okN]
theorem okE_at {n : Int} {l : List En} {k : Nat} {x : En} (h : allE n l = true) (hx : l[k]? = some x) : okE n x = true := List.all_eq_true.1 h x (List.mem_of_getElem? hx)
theorem allE_app {n : Int} {l m : List En} : allE n (l ++ m) = (allE n l && allE n m) := by simp [allE]
/-- A valid entry is a command or a change. -/
theorem okE_cases {n : Int} {x : En} (h : okE n x = true) : (x.2 = 0 ∧ 1 ≤ x.1 ∧ x.1 ≤ 99) ∨ (x.2 ≠ 0 ∧ x.1 = 0 ∧ 1 ≤ x.2 ∧ x.2 ≤ n) := by
  unfold okE at h
  split at h
  · next h0 => left; exact ⟨h0, by simpa [okV] using h⟩
  · next h0 => right; exact ⟨h0, by simpa using h⟩
theorem pre_take {l : List En} {k : Nat} {x : En} (h : l[k]? = some x) : pre (l.take (k + 1)) = pre1 (pre (l.take k)) x := by
  rw [List.take_add_one, h]
  simp [pre]
theorem pre_app (l : List En) (x : En) : pre (l ++ [x]) = pre1 (pre l) x := by simp [pre]
/-- Backward from the last entry. -/
def confR : List En → Int → Int
  | [], _ => 1
  | x :: r, s => if x.2 ≠ 0 ∧ (r.length : Int) + 2 ≤ s then x.2 else confR r s
theorem confR_eq {n : Int} (s : Int) : ∀ (r : List En), allE n r = true → confR r s = conf r.reverse s
  | [], _ => by simp [confR, conf, pre]
  | x :: r, h => by
    have hx : okE n x = true := by simp [allE] at h; exact h.1
    have hr : allE n r = true := by simp [allE] at h ⊢; exact h.2
    have ih := confR_eq s r hr
    unfold confR
    rw [ih, conf, conf]
    have hl : r.reverse.length = r.length := by simp
    by_cases hs : (r.length : Int) + 2 ≤ s
    · have e : (x :: r).reverse.take (s - 1).toNat = r.reverse ++ [x] := by
        rw [List.take_of_length_le (by simp; omega)]; simp
      have e2 : r.reverse.take (s - 1).toNat = r.reverse := List.take_of_length_le (by simp; omega)
      rw [e, e2, pre_app, pre1]
      rcases okE_cases hx with ⟨h0, _⟩ | ⟨h0, _, h1, _⟩
      · rw [if_neg (by simp [h0]), if_neg (by omega)]
      · rw [if_pos ⟨h0, hs⟩, if_pos (by omega)]
    · have e : (x :: r).reverse.take (s - 1).toNat = r.reverse.take (s - 1).toNat := by
        rw [List.reverse_cons, List.take_append_of_le_length (by simp; omega)]
      rw [e, if_neg (by omega)]
theorem confR_l {n : Int} {l : List En} (s : Int) (h : okL l n = true) : confR l.reverse s = conf l s := by
  have h1 : allE n l.reverse = true := by have := (okL_parts h).1; simpa [allE] using this
  rw [confR_eq s _ h1, List.reverse_reverse]
/-- The model's way: forward as far as the slot allows. -/
theorem conf_end {l : List En} {s : Int} {k : Nat} (hk : k ≤ l.length) (hks : (k : Int) + 1 ≤ s ∨ k = 0) (h : ¬ (k < l.length ∧ (k : Int) + 2 ≤ s)) : pre (l.take k) = conf l s := by
  unfold conf
  congr 1
  rcases Nat.lt_or_ge k l.length with h1 | h1
  · rcases hks with h2 | h2
    · congr 1; omega
    · subst h2
      have : (s - 1).toNat = 0 := by omega
      rw [this]
  · rw [List.take_of_length_le h1]
    rcases hks with h2 | h2
    · rw [List.take_of_length_le (by omega)]
    · subst h2
      have : l = [] := List.eq_nil_of_length_eq_zero (by omega)
      simp [this]
theorem conf_range {n : Int} {l : List En} {s : Int} (h : allE n l = true) (hn : 1 ≤ n) : 1 ≤ conf l s ∧ conf l s ≤ n := by
  have key : ∀ (m : List En) (c : Int), allE n m = true → 1 ≤ c → c ≤ n → 1 ≤ m.foldl pre1 c ∧ m.foldl pre1 c ≤ n := by
    intro m
    induction m with
    | nil => intro c _ h1 h2; exact ⟨h1, h2⟩
    | cons x m ih =>
      intro c hm h1 h2
      have hx : okE n x = true := by simp [allE] at hm; exact hm.1
      have hr : allE n m = true := by simp [allE] at hm ⊢; exact hm.2
      rw [List.foldl_cons]
      refine ih _ hr ?_ ?_ <;> unfold pre1 <;> rcases okE_cases hx with ⟨h0, _⟩ | ⟨h0, _, h3, h4⟩
      · rw [if_neg (by omega)]; exact h1
      · rw [if_pos (by omega)]; exact h3
      · rw [if_neg (by omega)]; exact h2
      · rw [if_pos (by omega)]; exact h4
  unfold conf pre
  refine key _ 1 ?_ (Int.le_refl _) hn
  rw [allE, List.all_eq_true] at h ⊢
  exact fun x hx => h x (List.mem_of_mem_take hx)
theorem vals_take {l : List En} {k : Nat} {x : En} (h : l[k]? = some x) : vals (l.take (k + 1)) = if x.2 = 0 then vals (l.take k) ++ [x.1] else vals (l.take k) := by
  rw [List.take_add_one, h]
  by_cases h0 : x.2 = 0 <;> simp [vals, h0]
theorem vals_len (l : List En) : (vals l).length ≤ l.length := by
  rw [vals, List.length_map]; exact List.length_filter_le _ _
end Go.Proofs.Ytimijinldhpmfaa
