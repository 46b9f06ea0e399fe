/- The model's scan of expressions by its contract. -/
import Derived.Test.YtncjpejkibhdoaaDoorEx
import Derived.Test.YtncjpejkibhdoaaDoorStr
namespace Go.Proofs.YtncjpejkibhdoaaDoor
open Go.RowKit

/-- The place behind an expression, -1 for none. -/
def endV (N : Nat) : Option (Ex × List UInt8) → Int
  | none => -1
  | some (_, r) => (N : Int) - r.length
def fin (N need j : Nat) : Option (List Ex × List UInt8) → Int
  | none => -1
  | some (es, r2) => if need ≤ j + es.length then (N : Int) - r2.length else -1
/-- The scan of operands at place k with j operands read: R is what comes out. -/
def St (l : List UInt8) (n need k j : Nat) (R : Int) : Prop :=
  (j = 0 ∧ ∃ m r, m < n ∧ l.drop k = 40 :: r ∧ 2 * r.length + 2 ≤ m ∧ R = fin l.length need 0 (pL m 6 r)) ∨
  (1 ≤ j ∧ j ≤ 6 ∧ ∃ m, m < n ∧ 2 * (l.length - k) + 1 ≤ m ∧ R = fin l.length need j (pT m (6 - j) (l.drop k)))

theorem drop_cons {l : List UInt8} {k : Nat} {c : UInt8} (h : l[k]? = some c) : l.drop k = c :: l.drop (k + 1) := by
  obtain ⟨hk, rfl⟩ := List.getElem?_eq_some_iff.1 h
  exact List.drop_eq_getElem_cons hk
theorem St.out {l : List UInt8} {n need k j : Nat} {R : Int} (h : St l n need k j R) (hk : l.length ≤ k) : R = -1 := by
  rcases h with ⟨_, m, r, _, hd, _⟩ | ⟨_, _, m, _, hm, hR⟩
  · rw [List.drop_of_length_le hk] at hd; cases hd
  · rw [List.drop_of_length_le hk] at hR
    obtain ⟨m', rfl⟩ : ∃ m', m = m' + 1 := ⟨m - 1, by omega⟩
    rw [hR, pT]; rfl
theorem St.close {l : List UInt8} {n need k j : Nat} {R : Int} {c : UInt8} (h : St l n need k j R) (hc : l[k]? = some c) (h41 : c.toNat = 41) : 1 ≤ j ∧ R = if need ≤ j then (k : Int) + 1 else -1 := by
  obtain rfl : c = 41 := UInt8.toNat_inj.1 h41
  rcases h with ⟨_, m, r, _, hd, _⟩ | ⟨h1, _, m, _, hm, hR⟩
  · rw [drop_cons hc] at hd; injection hd with hd; cases hd
  · rw [drop_cons hc] at hR
    obtain ⟨m', rfl⟩ : ∃ m', m = m' + 1 := ⟨m - 1, by omega⟩
    rw [pT, if_pos rfl] at hR
    have hk := (List.getElem?_eq_some_iff.1 hc).1
    refine ⟨h1, ?_⟩
    rw [hR]
    simp only [fin, List.length_nil, Nat.add_zero, List.length_drop]
    split
    · omega
    · rfl
theorem St.bad {l : List UInt8} {n need k j : Nat} {R : Int} {c : UInt8} (h : St l n need k j R) (hc : l[k]? = some c) (h41 : c.toNat ≠ 41) (h44 : c.toNat ≠ 44) (hj : 0 < j) : R = -1 := by
  rcases h with ⟨h0, _⟩ | ⟨h1, _, m, _, hm, hR⟩
  · omega
  · rw [drop_cons hc] at hR
    obtain ⟨m', rfl⟩ : ∃ m', m = m' + 1 := ⟨m - 1, by omega⟩
    rw [pT, if_neg (by rintro rfl; exact h41 rfl), if_neg (by rintro rfl; exact h44 rfl)] at hR
    exact hR
theorem St.many {l : List UInt8} {n need k j : Nat} {R : Int} {c : UInt8} (h : St l n need k j R) (hc : l[k]? = some c) (h41 : c.toNat ≠ 41) (hj : 6 ≤ j) : R = -1 := by
  rcases h with ⟨h0, _⟩ | ⟨h1, h6, m, _, hm, hR⟩
  · omega
  · obtain rfl : j = 6 := by omega
    rw [drop_cons hc] at hR
    obtain ⟨m', rfl⟩ : ∃ m', m = m' + 1 := ⟨m - 1, by omega⟩
    rw [pT, if_neg (by rintro rfl; exact h41 rfl)] at hR
    have : pL m' (6 - 6) (l.drop (k + 1)) = none := by cases m' <;> simp [pL]
    rw [this, ite_self] at hR
    exact hR
theorem St.next {l : List UInt8} {n need k j : Nat} {R : Int} {c : UInt8} (h : St l n need k j R) (hc : l[k]? = some c) (h41 : c.toNat ≠ 41) (h44 : j = 0 ∨ c.toNat = 44) (hj : j < 6) :
    ∃ m, m < n ∧ 2 * (l.length - (k + 1)) + 1 ≤ m ∧ (pE m (l.drop (k + 1)) = none → R = -1) ∧
      (∀ e r1, pE m (l.drop (k + 1)) = some (e, r1) → St l n need (l.length - r1.length) (j + 1) R ∧ r1.length + (k + 1) < l.length) := by
  have hk := (List.getElem?_eq_some_iff.1 hc).1
  have key : ∃ m, m + 1 < n ∧ 2 * (l.length - (k + 1)) + 1 ≤ m ∧ R = fin l.length need j (pL (m + 1) (6 - j) (l.drop (k + 1))) := by
    rcases h with ⟨rfl, m, r, hmn, hd, hm, hR⟩ | ⟨h1, h6, m, hmn, hm, hR⟩
    · rw [drop_cons hc] at hd
      injection hd with _ hd
      subst hd
      rw [List.length_drop] at hm
      obtain ⟨m', rfl⟩ : ∃ m', m = m' + 1 := ⟨m - 1, by omega⟩
      exact ⟨m', hmn, by omega, hR⟩
    · obtain rfl : c = 44 := UInt8.toNat_inj.1 (by rcases h44 with h | h; omega; exact h)
      rw [drop_cons hc] at hR
      obtain ⟨m', rfl⟩ : ∃ m', m = m' + 1 := ⟨m - 1, by omega⟩
      rw [pT, if_neg (by decide), if_pos rfl] at hR
      obtain ⟨m2, rfl⟩ : ∃ m2, m' = m2 + 1 := ⟨m' - 1, by omega⟩
      exact ⟨m2, by omega, by omega, hR⟩
  obtain ⟨m, hmn, hm, hR⟩ := key
  refine ⟨m, by omega, hm, fun hn => ?_, fun e r1 hs => ?_⟩
  · rw [show 6 - j = (5 - j) + 1 by omega, pL, hn] at hR
    exact hR
  · obtain ⟨s1, _⟩ := (p_sound m).1 _ _ _ hs
    have hlen := congrArg List.length s1
    have hp := tx_pos e
    simp only [List.length_drop, List.length_append] at hlen
    have hd : l.drop (l.length - r1.length) = r1 := by
      have e1 : l.drop (l.length - r1.length) = (l.drop (k + 1)).drop (tx e).length := by rw [List.drop_drop]; congr 1; omega
      rw [e1, s1, List.drop_left]
    refine ⟨.inr ⟨by omega, by omega, m, by omega, by omega, ?_⟩, by omega⟩
    rw [show 6 - j = (5 - j) + 1 by omega, pL, hs] at hR
    rw [hR, hd, show 6 - (j + 1) = 5 - j by omega]
    simp only
    cases pT m (5 - j) r1 with
    | none => rfl
    | some p => obtain ⟨es, r2⟩ := p; simp only [fin, List.length_cons, Nat.add_assoc, Nat.add_comm 1]

theorem idx {T : ByteArray} {k : Nat} {b : UInt8} (h : T.data.toList[k]? = some b) (w : World) : (Instr.index 9 (.string T) (.int .i64 (k : Int))).run Tryd.prog w = .ok (.int .u8 b.toNat) w := by
  obtain ⟨hk, hb⟩ := List.getElem?_eq_some_iff.1 h
  have hk2 : k < T.size := by simpa using hk
  rw [run_index_string w 9 T .i64 k Tryd.underlying9, dif_pos ⟨by omega, by omega⟩]
  subst hb
  rfl
theorem idx1 {T : ByteArray} {k : Nat} {b : UInt8} (h : T.data.toList[k + 1]? = some b) (w : World) : (Instr.index 9 (.string T) (.int .i64 ((k : Int) + 1))).run Tryd.prog w = .ok (.int .u8 b.toNat) w := by
  have := idx h w
  rwa [show ((k + 1 : Nat) : Int) = (k : Int) + 1 by omega] at this

end Go.Proofs.YtncjpejkibhdoaaDoor
