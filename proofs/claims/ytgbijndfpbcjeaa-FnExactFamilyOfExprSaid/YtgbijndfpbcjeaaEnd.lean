/- The model's scan of expressions by its contract. -/
import Derived.Test.YtgbijndfpbcjeaaEx
import Derived.Test.YtgbijndfpbcjeaaStr
namespace Go.Proofs.Ytgbijndfpbcjeaa
open Go.RowKit

/-- The place behind an expression, -1 for none. -/
def endV (N : Nat) : Option (Ex × List UInt8) → Int
  | none => -1
  | some (_, r) => (N : Int) - r.length
def fin (N need j : Nat) : Option (List Ex × List UInt8) → Int
  | none => -1
  | some (es, r2) => if need ≤ j + es.length then (N : Int) - r2.length else -1
/-- The scan of operands at place k with j operands read: R is what comes out. -/
def St (l : List UInt8) (n need k j : Nat) (R : Int) : Prop :=
  (j = 0 ∧ ∃ m r, m < n ∧ l.drop k = 40 :: r ∧ 2 * r.length + 2 ≤ m ∧ R = fin l.length need 0 (pL m 6 r)) ∨
  (1 ≤ j ∧ j ≤ 6 ∧ ∃ m, m < n ∧ 2 * (l.length - k) + 1 ≤ m ∧ R = fin l.length need j (pT m (6 - j) (l.drop k)))

theorem drop_cons {l : List UInt8} {k : Nat} {c : UInt8} (h : l[k]? = some c) : l.drop k = c :: l.drop (k + 1) := by
  obtain ⟨hk, rfl⟩ := List.getElem?_eq_some_iff.1 h
  exact List.drop_eq_getElem_cons hk
theorem St.out {l : List UInt8} {n need k j : Nat} {R : Int} (h : St l n need k j R) (hk : l.length ≤ k) : R = -1 := by
  rcases h with ⟨_, m, r, _, hd, _⟩ | ⟨_, _, m, _, hm, hR⟩
  · rw [List.drop_of_length_le hk] at hd; cases hd
  · rw [List.drop_of_length_le hk] at hR
    obtain ⟨m', rfl⟩ : ∃ m', m = m' + 1 := ⟨m - 1, by omega⟩
    rw [hR, pT]; rfl
theorem St.close {l : List UInt8} {n need k j : Nat} {R : Int} {c : UInt8} (h : St l n need k j R) (hc : l[k]? = some c) (h41 : c.toNat = 41) : 1 ≤ j ∧ R = if need ≤ j then (k : Int) + 1 else -1 := by
  obtain rfl : c = 41 := UInt8.toNat_inj.1 h41
  rcases h with ⟨_, m, r, _, hd, _⟩ | ⟨h1, _, m, _, hm, hR⟩
  · rw [drop_cons hc] at hd; injection hd with hd; cases hd
  · rw [drop_cons hc] at hR
    obtain ⟨m', rfl⟩ : ∃ m', m = m' + 1 := ⟨m - 1, by omega⟩
    rw [pT, if_pos rfl] at hR
    have hk := (List.getElem?_eq_some_iff.1 hc).1
    refine ⟨h1, ?_⟩
    rw [hR]
    simp only [fin, List.length_nil, Nat.add_zero, List.length_drop]
    split
    · omega
    · rfl
theorem St.bad {l : List UInt8} {n need k j : Nat} {R : Int} {c : UInt8} (h : St l n need k j R) (hc : l[k]? = some c) (h41 : c.toNat ≠ 41) (h44 : c.toNat ≠ 44) (hj : 0 < j) : R = -1 := by
  rcases h with ⟨h0, _⟩ | ⟨h1, _, m, _, hm, hR⟩
  · omega
  · rw [drop_cons hc] at hR
    obtain ⟨m', rfl⟩ : ∃ m', m = m' + 1 := ⟨m - 1, by omega⟩
    rw [pT, if_neg (by rintro rfl; exact h41 rfl), if_neg (by rintro rfl; exact h44 rfl)] at hR
    exact hR
theorem St.many {l : List UInt8} {n need k j : Nat} {R : Int} {c : UInt8} (h : St l n need k j R) (hc : l[k]? = some c) (h41 : c.toNat ≠ 41) (hj : 6 ≤ j) : R = -1 := by
  rcases h with ⟨h0, _⟩ | ⟨h1, h6, m, _, hm, hR⟩
  · omega
  · obtain rfl : j = 6 := by omega
    rw [drop_cons hc] at hR
    obtain ⟨m', rfl⟩ : ∃ m', m = m' + 1 := ⟨m - 1, by omega⟩
    rw [pT, if_neg (by rintro rfl; exact h41 rfl)] at hR
    have : pL m' (6 - 6) (l.drop (k + 1)) = none := by cases m' <;> simp [pL]
    rw [this, ite_self] at hR
    exact hR
theorem St.next {l : List UInt8} {n need k j : Nat} {R : Int} {c : UInt8} (h : St l n need k j R) (hc : l[k]? = some c) (h41 : c.toNat ≠ 41) (h44 : j = 0 ∨ c.toNat = 44) (hj : j < 6) :
    ∃ m, m < n ∧ 2 * (l.length - (k + 1)) + 1 ≤ m ∧ (pE m (l.drop (k + 1)) = none → R = -1) ∧
      (∀ e r1, pE m (l.drop (k + 1)) = some (e, r1) → St l n need (l.length - r1.length) (j + 1) R ∧ r1.length + (k + 1) < l.length) := by
  have hk := (List.getElem?_eq_some_iff.1 hc).1
  have key : ∃ m, m + 1 < n ∧ 2 * (l.length - (k + 1)) + 1 ≤ m ∧ R = fin l.length need j (pL (m + 1) (6 - j) (l.drop (k + 1))) := by
    rcases h with ⟨rfl, m, r, hmn, hd, hm, hR⟩ | ⟨h1, h6, m, hmn, hm, hR⟩
    · rw [drop_cons hc] at hd
      injection hd with _ hd
      subst hd
      rw [List.length_drop] at hm
      obtain ⟨m', rfl⟩ : ∃ m', m = m' + 1 := ⟨m - 1, by omega⟩
      exact ⟨m', hmn, by omega, hR⟩
    · obtain rfl : c = 44 := UInt8.toNat_inj.1 (by rcases h44 with h | h; omega; exact h)
      rw [drop_cons hc] at hR
      obtain ⟨m', rfl⟩ : ∃ m', m = m' + 1 := ⟨m - 1, by omega⟩
      rw [pT, if_neg (by decide), if_pos rfl] at hR
      obtain ⟨m2, rfl⟩ : ∃ m2, m' = m2 + 1 := ⟨m' - 1, by omega⟩
      exact ⟨m2, by omega, by omega, hR⟩
  obtain ⟨m, hmn, hm, hR⟩ := key
  refine ⟨m, by omega, hm, fun hn => ?_, fun e r1 hs => ?_⟩
  · rw [show 6 - j = (5 - j) + 1 by omega, pL, hn] at hR
    exact hR
  · obtain ⟨s1, _⟩ := (p_sound m).1 _ _ _ hs
    have hlen := congrArg List.length s1
    have hp := tx_pos e
    simp only [List.length_drop, List.length_append] at hlen
    have hd : l.drop (l.length - r1.length) = r1 := by
      have e1 : l.drop (l.length - r1.length) = (l.drop (k + 1)).drop (tx e).length := by rw [List.drop_drop]; congr 1; omega
      rw [e1, s1, List.drop_left]
    refine ⟨.inr ⟨by omega, by omega, m, by omega, by omega, ?_⟩, by omega⟩
    rw [show 6 - j = (5 - j) + 1 by omega, pL, hs] at hR
    rw [hR, hd, show 6 - (j + 1) = 5 - j by omega]
    simp only
    cases pT m (5 - j) r1 with
    | none => rfl
    | some p => obtain ⟨es, r2⟩ := p; simp only [fin, List.length_cons, Nat.add_assoc, Nat.add_comm 1]

theorem idx {T : ByteArray} {k : Nat} {b : UInt8} (h : T.data.toList[k]? = some b) (w : World) : (Instr.index 9 (.string T) (.int .i64 (k : Int))).run Try.prog w = .ok (.int .u8 b.toNat) w := by
  obtain ⟨hk, hb⟩ := List.getElem?_eq_some_iff.1 h
  have hk2 : k < T.size := by simpa using hk
  rw [run_index_string w 9 T .i64 k Try.underlying9, dif_pos ⟨by omega, by omega⟩]
  subst hb
  rfl
theorem idx1 {T : ByteArray} {k : Nat} {b : UInt8} (h : T.data.toList[k + 1]? = some b) (w : World) : (Instr.index 9 (.string T) (.int .i64 ((k : Int) + 1))).run Try.prog w = .ok (.int .u8 b.toNat) w := by
  have := idx h w
  rwa [show ((k + 1 : Nat) : Int) = (k : Int) + 1 by omega] at this

set_option maxRecDepth 100000 in
set_option maxHeartbeats 1600000 in
theorem l2End_any (n : Nat) : ∀ (T : ByteArray) (k : Nat) (w : World), k ≤ T.size → T.size ≤ 1000 → 2 * (T.size - k) + 1 ≤ n →
    Calls Try.prog 95 #[.string T, .int .i64 k] w fun e w' => e = .returned (.int .i64 (endV T.size (pE n (T.data.toList.drop k)))) ∧ w = w' := by
  induction n using Nat.strongRecOn with
  | ind n ih =>
  intro T k w hk hN hn
  obtain ⟨n', rfl⟩ : ∃ n', n = n' + 1 := ⟨n - 1, by omega⟩
  have hlen : T.data.toList.length = T.size := by simp
  obtain ⟨N, hNe⟩ : ∃ N, N = T.size := ⟨_, rfl⟩
  rw [← hNe] at hk hN hn hlen
  obtain ⟨l, hl⟩ : ∃ l, l = T.data.toList := ⟨_, rfl⟩
  rw [← hl] at hlen ⊢
  by_cases hkN : k < N
  · obtain ⟨b, hb⟩ : ∃ b, l[k]? = some b := ⟨_, List.getElem?_eq_getElem (by omega)⟩
    have hd := drop_cons hb
    have hi := idx (T := T) (k := k) (b := b) (by rw [← hl]; exact hb)
    have hbN : b.toNat ≤ 255 := by have := b.toNat_lt; omega
    by_cases hD : isD b = true
    · obtain ⟨hlo, hhi⟩ : 49 ≤ b.toNat ∧ b.toNat ≤ 54 := by simpa [isD] using hD
      by_cases hk1 : k + 1 < N
      · obtain ⟨c, hc⟩ : ∃ c, l[k + 1]? = some c := ⟨_, List.getElem?_eq_getElem (by omega)⟩
        have hd1 := drop_cons hc
        have hi1 := idx1 (T := T) (k := k) (b := c) (by rw [← hl]; exact hc)
        have hcN : c.toNat ≤ 255 := by have := c.toNat_lt; omega
        by_cases h40 : c.toNat = 40
        · have hE := (show endV N (pE (n' + 1) (l.drop k)) = fin l.length (b.toNat - 48) 0 (pL n' 6 (l.drop (k + 1 + 1))) by
            rw [hd, hd1]
            simp only [pE, hD, if_true, if_pos (show c = 40 from UInt8.toNat_inj.1 h40)]
            rw [hlen]
            cases pL n' 6 (l.drop (k + 1 + 1)) with
            | none => rfl
            | some p => obtain ⟨es, r2⟩ := p; simp only [fin, Nat.zero_add]; split <;> rfl)
          have hS : St l (n' + 1) (b.toNat - 48) (k + 1) 0 (endV N (pE (n' + 1) (l.drop k))) :=
            .inl ⟨rfl, n', l.drop (k + 1 + 1), by omega, by rw [hd1, show c = 40 from UInt8.toNat_inj.1 h40], by rw [List.length_drop]; omega, hE⟩
          have HS := Lib.hid hS
          rw [← hNe]
          generalize endV N (pE (n' + 1) (l.drop k)) = R at *
          have HL := Lib.hid hl
          have hne : b.toNat - 48 ≤ 6 := by omega
          have hbe : (b.toNat : Int) - 48 = ((b.toNat - 48 : Nat) : Int) := by omega
          generalize b.toNat - 48 = need at *
          generalize b.toNat = bn at *
          generalize c.toNat = cn at *
          subst h40
          clear hd hb hD hc hd1 hE hS hl
          go_enter Try.func95, Try.ntmps95
          go_wp2_with fail
          go_loop [1, 6] (fun a p => ∃ k' j : Nat, k' ≤ N ∧ j ≤ 6 ∧ a = .int .i64 k' ∧ p = .int .i64 j ∧ Hid (St l (n' + 1) need k' j R)) (fun a _ => N - (intOf a).toNat)
          case atStart => exact ⟨k + 1, 0, by omega, by omega, by go_num, rfl, HS.out⟩
          case round =>
            obtain ⟨k', j, hk', hj, rfl, rfl, hs⟩ := hrel
            by_cases hlt : k' < N
            · obtain ⟨d, hd⟩ : ∃ d, l[k']? = some d := ⟨_, List.getElem?_eq_getElem (by omega)⟩
              have hi' := idx (T := T) (k := k') (b := d) (by rw [← HL.out]; exact hd)
              have hdN : d.toNat ≤ 255 := by have := d.toNat_lt; omega
              by_cases h41 : d.toNat = 41
              · obtain ⟨h1, hR⟩ := hs.out.close hd h41
                rw [h41] at hi'
                clear hd h41 hdN hs ih HS
                by_cases hne' : need ≤ j
                · rw [if_pos hne'] at hR
                  have HR := Lib.hid hR
                  clear hR
                  go_wp2
                  go_ret
                  exact ⟨ret_int HR.out.symm, rfl⟩
                · rw [if_neg hne'] at hR
                  have HR := Lib.hid hR
                  clear hR
                  go_wp2
                  go_ret
                  exact ⟨ret_int HR.out.symm, rfl⟩
              · have h41' : ((d.toNat : Int) != 41) = true := by simp; omega
                by_cases hbad : 0 < j ∧ d.toNat ≠ 44
                · have HR := Lib.hid (hs.out.bad hd h41 hbad.2 hbad.1)
                  have h44' : ((d.toNat : Int) != 44) = true := by simp; omega
                  have hj0 : 0 < j := hbad.1
                  generalize d.toNat = dn at *
                  clear hd h41 hbad hs ih HS
                  go_wp2
                  go_ret
                  exact ⟨ret_int HR.out.symm, rfl⟩
                · by_cases h6 : 6 ≤ j
                  · have HR := Lib.hid (hs.out.many hd h41 h6)
                    have h44 : d.toNat = 44 := by omega
                    rw [h44] at hi'
                    clear hd h41 hbad hs ih HS h41' h44 hdN
                    go_wp2
                    go_ret
                    exact ⟨ret_int HR.out.symm, rfl⟩
                  · obtain ⟨m, hmn, hm, hnone, hsome⟩ := hs.out.next hd h41 (by omega) (by omega)
                    have hcall : ∀ w : World, Calls Try.prog 95 #[.string T, .int .i64 ((k' : Int) + 1)] w fun e w' => e = .returned (.int .i64 (endV T.size (pE m (l.drop (k' + 1))))) ∧ w = w' := by
                      intro w
                      have := ih m hmn T (k' + 1) w (by omega) (by omega) (by omega)
                      rwa [← HL.out, Int.natCast_add] at this
                    have hj44 : j = 0 ∨ (0 < j ∧ d.toNat = 44) := by omega
                    have hj6 : j < 6 := by omega
                    clear ih hbad h6
                    cases hp : pE m (l.drop (k' + 1)) with
                    | none =>
                      have HR := Lib.hid (hnone hp)
                      rw [hp] at hcall
                      simp only [endV] at hcall
                      have HC := Lib.hid hcall
                      generalize d.toNat = dn at *
                      clear hd h41 hs HS hnone hsome hp hcall hm
                      rcases hj44 with rfl | ⟨hj0, rfl⟩
                      · go_wp2_with (go_at_call 95; refine (HC.out _).mono ?_; rintro e w' ⟨rfl, rfl⟩)
                        go_ret
                        exact ⟨ret_int HR.out.symm, rfl⟩
                      · go_wp2_with (go_at_call 95; refine (HC.out _).mono ?_; rintro e w' ⟨rfl, rfl⟩)
                        go_ret
                        exact ⟨ret_int HR.out.symm, rfl⟩
                    | some p =>
                      obtain ⟨e, r1⟩ := p
                      obtain ⟨s1, s2⟩ := hsome e r1 hp
                      rw [hp] at hcall
                      simp only [endV] at hcall
                      rw [hlen] at s1 s2
                      obtain ⟨q, hq⟩ : ∃ q : Nat, q = N - r1.length := ⟨_, rfl⟩
                      rw [← hq] at s1
                      rw [show (T.size : Int) - (r1.length : Int) = (q : Int) by omega] at hcall
                      have hq1 : k' + 1 < q := by omega
                      have hq2 : q ≤ N := by omega
                      have HC := Lib.hid hcall
                      have H1 := Lib.hid s1
                      generalize d.toNat = dn at *
                      clear hd h41 hs HS hnone hsome hp hcall hm s1 s2 hq
                      rcases hj44 with rfl | ⟨hj0, rfl⟩
                      · go_wp2_with (go_at_call 95; refine (HC.out _).mono ?_; rintro e w' ⟨rfl, rfl⟩)
                        go_round
                        case rel => exact ⟨q, _, hq2, by omega, rfl, by go_num, H1.out⟩
                        case measure => simp [intOf]; omega
                      · go_wp2_with (go_at_call 95; refine (HC.out _).mono ?_; rintro e w' ⟨rfl, rfl⟩)
                        go_round
                        case rel => exact ⟨q, j + 1, hq2, by omega, rfl, by go_num, H1.out⟩
                        case measure => simp [intOf]; omega
            · have HR := Lib.hid (hs.out.out (by omega))
              clear hs ih HS
              go_wp2
              go_ret
              exact ⟨ret_int HR.out.symm, rfl⟩
        · have HE := Lib.hid (show endV N (pE (n' + 1) (l.drop k)) = (k : Int) + 1 by
            rw [hd, hd1]
            simp only [pE, hD, if_true, if_neg (show ¬ c = 40 by rintro rfl; exact h40 rfl), endV, List.length_cons, List.length_drop]
            omega)
          rw [← hNe]
          generalize b.toNat = bn at *
          generalize c.toNat = cn at *
          have h40' : ((cn : Int) != 40) = true := by simp; omega
          clear hl hlen ih hd hb hD hc hd1 h40
          go_enter Try.func95, Try.ntmps95
          go_wp2
          go_ret
          exact ⟨ret_int (by first | exact HE.out.symm | (rw [← hNe]; exact HE.out.symm) | fail), rfl⟩
      · have HE := Lib.hid (show endV N (pE (n' + 1) (l.drop k)) = (k : Int) + 1 by
          rw [hd, List.drop_of_length_le (by omega)]
          simp only [pE, hD, if_true, endV, List.length_nil]
          omega)
        rw [← hNe]
        generalize b.toNat = bn at *
        clear hl hlen ih hd hb hD
        go_enter Try.func95, Try.ntmps95
        go_wp2
        go_ret
        exact ⟨ret_int (by first | exact HE.out.symm | (rw [← hNe]; exact HE.out.symm) | fail), rfl⟩
    · have HE := Lib.hid (show endV N (pE (n' + 1) (l.drop k)) = -1 by
        rw [hd]
        cases l.drop (k + 1) <;> simp only [pE, hD] <;> rfl)
      have hlh : b.toNat < 49 ∨ 54 < b.toNat := by simp [isD] at hD; omega
      rw [← hNe]
      generalize b.toNat = bn at *
      clear hl hlen ih hd hb hD
      rcases hlh with hlow | hhi
      · go_enter Try.func95, Try.ntmps95
        go_wp2
        go_ret
        exact ⟨ret_int (by first | exact HE.out.symm | (rw [← hNe]; exact HE.out.symm) | fail), rfl⟩
      · go_enter Try.func95, Try.ntmps95
        go_wp2
        go_ret
        exact ⟨ret_int (by first | exact HE.out.symm | (rw [← hNe]; exact HE.out.symm) | fail), rfl⟩
  · have HE := Lib.hid (show endV N (pE (n' + 1) (l.drop k)) = -1 by rw [List.drop_of_length_le (by omega), pE]; rfl)
    rw [← hNe]
    clear hl hlen ih
    go_enter Try.func95, Try.ntmps95
    go_wp2
    go_ret
    exact ⟨ret_int (by first | exact HE.out.symm | (rw [← hNe]; exact HE.out.symm) | fail), rfl⟩
end Go.Proofs.Ytgbijndfpbcjeaa
