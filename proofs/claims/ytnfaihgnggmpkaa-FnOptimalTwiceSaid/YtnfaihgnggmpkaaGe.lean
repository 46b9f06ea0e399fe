/- Texts of sets, the model's, by their contracts. -/
import Derived.Test.YtnfaihgnggmpkaaGb
import Derived.Test.YtnfaihgnggmpkaaGa
import Derived.Maps.AppendAt
namespace Go.Proofs.Ytnfaihgnggmpkaa
open Go.RowKit

def dig (x : Int) : List UInt8 := [UInt8.ofNat (48 + x.toNat)]
def fmtK (l : List Int) : Nat → List UInt8
  | 0 => [123]
  | k + 1 => fmtK l k ++ (if k = 0 then [] else [44]) ++ dig (l.getD k 0)
def fmt (l : List Int) : List UInt8 := fmtK l l.length ++ [125]
abbrev S (l : List UInt8) : Value := .string ⟨l.toArray⟩
theorem ba_app (a b : List UInt8) : (⟨a.toArray⟩ : ByteArray) ++ ⟨b.toArray⟩ = ⟨(a ++ b).toArray⟩ := by apply ByteArray.ext; simp
theorem fmtK_len (l : List Int) (k : Nat) : (fmtK l k).length ≤ 2 * k + 1 := by
  induction k with
  | zero => simp [fmtK]
  | succ k ih => simp only [fmtK, List.length_append, dig, List.length_cons, List.length_nil]; split <;> simp <;> omega

theorem small_byte {x : Int} (h0 : 0 ≤ x) (h1 : x ≤ 9) : ((UInt8.ofNat (48 + x.toNat)).toNat : Int) = 48 + x := by
  have H : ∀ n : Fin 10, (UInt8.ofNat (48 + n.val)).toNat = 48 + n.val := by decide
  have := H ⟨x.toNat, by omega⟩
  simp only at this
  rw [this]; omega
set_option maxRecDepth 100000 in
set_option maxHeartbeats 800000 in
theorem l6Dec_digit (x : Int) (w : World) (h0 : 0 ≤ x) (h1 : x ≤ 9) :
    Calls Try.prog 68 #[.int .i64 x] w fun e w' => e = .returned (S (dig x)) ∧ Below w.heap.size w w' := by
  have hcv : (convert 22 9 (.slice (some ⟨w.heap.size, 0, none⟩) 1 1)).run Try.prog (w.alloc (.cells #[.int .u8 (48 + x)] 5)) = .ok (S (dig x)) (w.alloc (.cells #[.int .u8 (48 + x)] 5)) :=
    run_convert_bytes_back (P := Try.prog) (w.alloc (.cells #[.int .u8 (48 + x)] 5)) 22 9 5 ⟨w.heap.size, 0, none⟩ 1 (dig x) Try.underlying22 Try.underlying5 Try.underlying9 (by
      intro j hj
      have hj0 : j = 0 := by simp [dig] at hj; omega
      subst hj0
      show _ = some (Value.int .u8 ((UInt8.ofNat (48 + x.toNat)).toNat : Int))
      rw [small_byte h0 h1]
      exact cell_one_new w _ _ 0 _ rfl)
  go_enter Try.func68, Try.ntmps68
  go_wp2
  go_ret
  exact ⟨rfl, (Below.refl _ _).alloc (Nat.le_refl _) _⟩

theorem fmtK_step {l : List Int} {k : Nat} {x : Int} (hx : l[k]? = some x) : fmtK l (k + 1) = fmtK l k ++ (if k = 0 then [] else [44]) ++ dig x := by
  simp [fmtK, List.getD, hx]

/-- The text of a set, empty for an invalid one. -/
def fmtR (l : List Int) : List UInt8 := if vld l = true then fmt l else []
end Go.Proofs.Ytnfaihgnggmpkaa

/- The model's scan of expressions by its contract. -/
namespace Go.Proofs.Ytnfaihgnggmpkaa
open Go.RowKit

/-- The place behind an expression, -1 for none. -/
def endV (N : Nat) : Option (Ex × List UInt8) → Int
  | none => -1
  | some (_, r) => (N : Int) - r.length
def fin (N need j : Nat) : Option (List Ex × List UInt8) → Int
  | none => -1
  | some (es, r2) => if need ≤ j + es.length then (N : Int) - r2.length else -1
/-- The scan of operands at place k with j operands read: R is what comes out. -/
def St (l : List UInt8) (n need k j : Nat) (R : Int) : Prop :=
  (j = 0 ∧ ∃ m r, m < n ∧ l.drop k = 40 :: r ∧ 2 * r.length + 2 ≤ m ∧ R = fin l.length need 0 (pL m 6 r)) ∨
  (1 ≤ j ∧ j ≤ 6 ∧ ∃ m, m < n ∧ 2 * (l.length - k) + 1 ≤ m ∧ R = fin l.length need j (pT m (6 - j) (l.drop k)))

theorem drop_cons {l : List UInt8} {k : Nat} {c : UInt8} (h : l[k]? = some c) : l.drop k = c :: l.drop (k + 1) := by
  obtain ⟨hk, rfl⟩ := List.getElem?_eq_some_iff.1 h
  exact List.drop_eq_getElem_cons hk
theorem St.out {l : List UInt8} {n need k j : Nat} {R : Int} (h : St l n need k j R) (hk : l.length ≤ k) : R = -1 := by
  rcases h with ⟨_, m, r, _, hd, _⟩ | ⟨_, _, m, _, hm, hR⟩
  · rw [List.drop_of_length_le hk] at hd; cases hd
  · rw [List.drop_of_length_le hk] at hR
    obtain ⟨m', rfl⟩ : ∃ m', m = m' + 1 := ⟨m - 1, by omega⟩
    rw [hR, pT]; rfl
theorem St.close {l : List UInt8} {n need k j : Nat} {R : Int} {c : UInt8} (h : St l n need k j R) (hc : l[k]? = some c) (h41 : c.toNat = 41) : 1 ≤ j ∧ R = if need ≤ j then (k : Int) + 1 else -1 := by
  obtain rfl : c = 41 := UInt8.toNat_inj.1 h41
  rcases h with ⟨_, m, r, _, hd, _⟩ | ⟨h1, _, m, _, hm, hR⟩
  · rw [drop_cons hc] at hd; injection hd with hd; cases hd
  · rw [drop_cons hc] at hR
    obtain ⟨m', rfl⟩ : ∃ m', m = m' + 1 := ⟨m - 1, by omega⟩
    rw [pT, if_pos rfl] at hR
    have hk := (List.getElem?_eq_some_iff.1 hc).1
    refine ⟨h1, ?_⟩
    rw [hR]
    simp only [fin, List.length_nil, Nat.add_zero, List.length_drop]
    split
    · omega
    · rfl
theorem St.bad {l : List UInt8} {n need k j : Nat} {R : Int} {c : UInt8} (h : St l n need k j R) (hc : l[k]? = some c) (h41 : c.toNat ≠ 41) (h44 : c.toNat ≠ 44) (hj : 0 < j) : R = -1 := by
  rcases h with ⟨h0, _⟩ | ⟨h1, _, m, _, hm, hR⟩
  · omega
  · rw [drop_cons hc] at hR
    obtain ⟨m', rfl⟩ : ∃ m', m = m' + 1 := ⟨m - 1, by omega⟩
    rw [pT, if_neg (by rintro rfl; exact h41 rfl), if_neg (by rintro rfl; exact h44 rfl)] at hR
    exact hR
theorem St.many {l : List UInt8} {n need k j : Nat} {R : Int} {c : UInt8} (h : St l n need k j R) (hc : l[k]? = some c) (h41 : c.toNat ≠ 41) (hj : 6 ≤ j) : R = -1 := by
  rcases h with ⟨h0, _⟩ | ⟨h1, h6, m, _, hm, hR⟩
  · omega
  · obtain rfl : j = 6 := by omega
    rw [drop_cons hc] at hR
    obtain ⟨m', rfl⟩ : ∃ m', m = m' + 1 := ⟨m - 1, by omega⟩
    rw [pT, if_neg (by rintro rfl; exact h41 rfl)] at hR
    have : pL m' (6 - 6) (l.drop (k + 1)) = none := by cases m' <;> simp [pL]
    rw [this, ite_self] at hR
    exact hR
theorem St.next {l : List UInt8} {n need k j : Nat} {R : Int} {c : UInt8} (h : St l n need k j R) (hc : l[k]? = some c) (h41 : c.toNat ≠ 41) (h44 : j = 0 ∨ c.toNat = 44) (hj : j < 6) :
    ∃ m, m < n ∧ 2 * (l.length - (k + 1)) + 1 ≤ m ∧ (pE m (l.drop (k + 1)) = none → R = -1) ∧
      (∀ e r1, pE m (l.drop (k + 1)) = some (e, r1) → St l n need (l.length - r1.length) (j + 1) R ∧ r1.length + (k + 1) < l.length) := by
  have hk := (List.getElem?_eq_some_iff.1 hc).1
  have key : ∃ m, m + 1 < n ∧ 2 * (l.length - (k + 1)) + 1 ≤ m ∧ R = fin l.length need j (pL (m + 1) (6 - j) (l.drop (k + 1))) := by
    rcases h with ⟨rfl, m, r, hmn, hd, hm, hR⟩ | ⟨h1, h6, m, hmn, hm, hR⟩
    · rw [drop_cons hc] at hd
      injection hd with _ hd
      subst hd
      rw [List.length_drop] at hm
      obtain ⟨m', rfl⟩ : ∃ m', m = m' + 1 := ⟨m - 1, by omega⟩
      exact ⟨m', hmn, by omega, hR⟩
    · obtain rfl : c = 44 := UInt8.toNat_inj.1 (by rcases h44 with h | h; omega; exact h)
      rw [drop_cons hc] at hR
      obtain ⟨m', rfl⟩ : ∃ m', m = m' + 1 := ⟨m - 1, by omega⟩
      rw [pT, if_neg (by decide), if_pos rfl] at hR
      obtain ⟨m2, rfl⟩ : ∃ m2, m' = m2 + 1 := ⟨m' - 1, by omega⟩
      exact ⟨m2, by omega, by omega, hR⟩
  obtain ⟨m, hmn, hm, hR⟩ := key
  refine ⟨m, by omega, hm, fun hn => ?_, fun e r1 hs => ?_⟩
  · rw [show 6 - j = (5 - j) + 1 by omega, pL, hn] at hR
    exact hR
  · obtain ⟨s1, _⟩ := (p_sound m).1 _ _ _ hs
    have hlen := congrArg List.length s1
    have hp := tx_pos e
    simp only [List.length_drop, List.length_append] at hlen
    have hd : l.drop (l.length - r1.length) = r1 := by
      have e1 : l.drop (l.length - r1.length) = (l.drop (k + 1)).drop (tx e).length := by rw [List.drop_drop]; congr 1; omega
      rw [e1, s1, List.drop_left]
    refine ⟨.inr ⟨by omega, by omega, m, by omega, by omega, ?_⟩, by omega⟩
    rw [show 6 - j = (5 - j) + 1 by omega, pL, hs] at hR
    rw [hR, hd, show 6 - (j + 1) = 5 - j by omega]
    simp only
    cases pT m (5 - j) r1 with
    | none => rfl
    | some p => obtain ⟨es, r2⟩ := p; simp only [fin, List.length_cons, Nat.add_assoc, Nat.add_comm 1]

theorem idx {T : ByteArray} {k : Nat} {b : UInt8} (h : T.data.toList[k]? = some b) (w : World) : (Instr.index 9 (.string T) (.int .i64 (k : Int))).run Try.prog w = .ok (.int .u8 b.toNat) w := by
  obtain ⟨hk, hb⟩ := List.getElem?_eq_some_iff.1 h
  have hk2 : k < T.size := by simpa using hk
  rw [run_index_string w 9 T .i64 k Try.underlying9, dif_pos ⟨by omega, by omega⟩]
  subst hb
  rfl
theorem idx1 {T : ByteArray} {k : Nat} {b : UInt8} (h : T.data.toList[k + 1]? = some b) (w : World) : (Instr.index 9 (.string T) (.int .i64 ((k : Int) + 1))).run Try.prog w = .ok (.int .u8 b.toNat) w := by
  have := idx h w
  rwa [show ((k + 1 : Nat) : Int) = (k : Int) + 1 by omega] at this

set_option maxRecDepth 100000 in
set_option maxHeartbeats 1600000 in
theorem l2End_any (n : Nat) : ∀ (T : ByteArray) (k : Nat) (w : World), k ≤ T.size → T.size ≤ 1000 → 2 * (T.size - k) + 1 ≤ n →
    Calls Try.prog 66 #[.string T, .int .i64 k] w fun e w' => e = .returned (.int .i64 (endV T.size (pE n (T.data.toList.drop k)))) ∧ w = w' := by
  induction n using Nat.strongRecOn with
  | ind n ih =>
  intro T k w hk hN hn
  obtain ⟨n', rfl⟩ : ∃ n', n = n' + 1 := ⟨n - 1, by omega⟩
  have hlen : T.data.toList.length = T.size := by simp
  obtain ⟨N, hNe⟩ : ∃ N, N = T.size := ⟨_, rfl⟩
  rw [← hNe] at hk hN hn hlen
  obtain ⟨l, hl⟩ : ∃ l, l = T.data.toList := ⟨_, rfl⟩
  rw [← hl] at hlen ⊢
  by_cases hkN : k < N
  · obtain ⟨b, hb⟩ : ∃ b, l[k]? = some b := ⟨_, List.getElem?_eq_getElem (by omega)⟩
    have hd := drop_cons hb
    have hi := idx (T := T) (k := k) (b := b) (by rw [← hl]; exact hb)
    have hbN : b.toNat ≤ 255 := by have := b.toNat_lt; omega
    by_cases hD : isD b = true
    · obtain ⟨hlo, hhi⟩ : 49 ≤ b.toNat ∧ b.toNat ≤ 54 := by simpa [isD] using hD
      by_cases hk1 : k + 1 < N
      · obtain ⟨c, hc⟩ : ∃ c, l[k + 1]? = some c := ⟨_, List.getElem?_eq_getElem (by omega)⟩
        have hd1 := drop_cons hc
        have hi1 := idx1 (T := T) (k := k) (b := c) (by rw [← hl]; exact hc)
        have hcN : c.toNat ≤ 255 := by have := c.toNat_lt; omega
        by_cases h40 : c.toNat = 40
        · have hE := (show endV N (pE (n' + 1) (l.drop k)) = fin l.length (b.toNat - 48) 0 (pL n' 6 (l.drop (k + 1 + 1))) by
            rw [hd, hd1]
            simp only [pE, hD, if_true, if_pos (show c = 40 from UInt8.toNat_inj.1 h40)]
            rw [hlen]
            cases pL n' 6 (l.drop (k + 1 + 1)) with
            | none => rfl
            | some p => obtain ⟨es, r2⟩ := p; simp only [fin, Nat.zero_add]; split <;> rfl)
          have hS : St l (n' + 1) (b.toNat - 48) (k + 1) 0 (endV N (pE (n' + 1) (l.drop k))) :=
            .inl ⟨rfl, n', l.drop (k + 1 + 1), by omega, by rw [hd1, show c = 40 from UInt8.toNat_inj.1 h40], by rw [List.length_drop]; omega, hE⟩
          have HS := Lib.hid hS
          rw [← hNe]
          generalize endV N (pE (n' + 1) (l.drop k)) = R at *
          have HL := Lib.hid hl
          have hne : b.toNat - 48 ≤ 6 := by omega
          have hbe : (b.toNat : Int) - 48 = ((b.toNat - 48 : Nat) : Int) := by omega
          generalize b.toNat - 48 = need at *
          generalize b.toNat = bn at *
          generalize c.toNat = cn at *
          subst h40
          clear hd hb hD hc hd1 hE hS hl
          go_enter Try.func66, Try.ntmps66
          go_wp2_with fail
          go_loop [1, 6] (fun a p => ∃ k' j : Nat, k' ≤ N ∧ j ≤ 6 ∧ a = .int .i64 k' ∧ p = .int .i64 j ∧ Hid (St l (n' + 1) need k' j R)) (fun a _ => N - (intOf a).toNat)
          case atStart => exact ⟨k + 1, 0, by omega, by omega, by go_num, rfl, HS.out⟩
          case round =>
            obtain ⟨k', j, hk', hj, rfl, rfl, hs⟩ := hrel
            by_cases hlt : k' < N
            · obtain ⟨d, hd⟩ : ∃ d, l[k']? = some d := ⟨_, List.getElem?_eq_getElem (by omega)⟩
              have hi' := idx (T := T) (k := k') (b := d) (by rw [← HL.out]; exact hd)
              have hdN : d.toNat ≤ 255 := by have := d.toNat_lt; omega
              by_cases h41 : d.toNat = 41
              · obtain ⟨h1, hR⟩ := hs.out.close hd h41
                rw [h41] at hi'
                clear hd h41 hdN hs ih HS
                by_cases hne' : need ≤ j
                · rw [if_pos hne'] at hR
                  have HR := Lib.hid hR
                  clear hR
                  go_wp2
                  go_ret
                  exact ⟨ret_int HR.out.symm, rfl⟩
                · rw [if_neg hne'] at hR
                  have HR := Lib.hid hR
                  clear hR
                  go_wp2
                  go_ret
                  exact ⟨ret_int HR.out.symm, rfl⟩
              · have h41' : ((d.toNat : Int) != 41) = true := by simp; omega
                by_cases hbad : 0 < j ∧ d.toNat ≠ 44
                · have HR := Lib.hid (hs.out.bad hd h41 hbad.2 hbad.1)
                  have h44' : ((d.toNat : Int) != 44) = true := by simp; omega
                  have hj0 : 0 < j := hbad.1
                  generalize d.toNat = dn at *
                  clear hd h41 hbad hs ih HS
                  go_wp2
                  go_ret
                  exact ⟨ret_int HR.out.symm, rfl⟩
                · by_cases h6 : 6 ≤ j
                  · have HR := Lib.hid (hs.out.many hd h41 h6)
                    have h44 : d.toNat = 44 := by omega
                    rw [h44] at hi'
                    clear hd h41 hbad hs ih HS h41' h44 hdN
                    go_wp2
                    go_ret
                    exact ⟨ret_int HR.out.symm, rfl⟩
                  · obtain ⟨m, hmn, hm, hnone, hsome⟩ := hs.out.next hd h41 (by omega) (by omega)
                    have hcall : ∀ w : World, Calls Try.prog 66 #[.string T, .int .i64 ((k' : Int) + 1)] w fun e w' => e = .returned (.int .i64 (endV T.size (pE m (l.drop (k' + 1))))) ∧ w = w' := by
                      intro w
                      have := ih m hmn T (k' + 1) w (by omega) (by omega) (by omega)
                      rwa [← HL.out, Int.natCast_add] at this
                    have hj44 : j = 0 ∨ (0 < j ∧ d.toNat = 44) := by omega
                    have hj6 : j < 6 := by omega
                    clear ih hbad h6
                    cases hp : pE m (l.drop (k' + 1)) with
                    | none =>
                      have HR := Lib.hid (hnone hp)
                      rw [hp] at hcall
                      simp only [endV] at hcall
                      have HC := Lib.hid hcall
                      generalize d.toNat = dn at *
                      clear hd h41 hs HS hnone hsome hp hcall hm
                      rcases hj44 with rfl | ⟨hj0, rfl⟩
                      · go_wp2_with (go_at_call 66; refine (HC.out _).mono ?_; rintro e w' ⟨rfl, rfl⟩)
                        go_ret
                        exact ⟨ret_int HR.out.symm, rfl⟩
                      · go_wp2_with (go_at_call 66; refine (HC.out _).mono ?_; rintro e w' ⟨rfl, rfl⟩)
                        go_ret
                        exact ⟨ret_int HR.out.symm, rfl⟩
                    | some p =>
                      obtain ⟨e, r1⟩ := p
                      obtain ⟨s1, s2⟩ := hsome e r1 hp
                      rw [hp] at hcall
                      simp only [endV] at hcall
                      rw [hlen] at s1 s2
                      obtain ⟨q, hq⟩ : ∃ q : Nat, q = N - r1.length := ⟨_, rfl⟩
                      rw [← hq] at s1
                      rw [show (T.size : Int) - (r1.length : Int) = (q : Int) by omega] at hcall
                      have hq1 : k' + 1 < q := by omega
                      have hq2 : q ≤ N := by omega
                      have HC := Lib.hid hcall
                      have H1 := Lib.hid s1
                      generalize d.toNat = dn at *
                      clear hd h41 hs HS hnone hsome hp hcall hm s1 s2 hq
                      rcases hj44 with rfl | ⟨hj0, rfl⟩
                      · go_wp2_with (go_at_call 66; refine (HC.out _).mono ?_; rintro e w' ⟨rfl, rfl⟩)
                        go_round
                        case rel => exact ⟨q, _, hq2, by omega, rfl, by go_num, H1.out⟩
                        case measure => simp [intOf]; omega
                      · go_wp2_with (go_at_call 66; refine (HC.out _).mono ?_; rintro e w' ⟨rfl, rfl⟩)
                        go_round
                        case rel => exact ⟨q, j + 1, hq2, by omega, rfl, by go_num, H1.out⟩
                        case measure => simp [intOf]; omega
            · have HR := Lib.hid (hs.out.out (by omega))
              clear hs ih HS
              go_wp2
              go_ret
              exact ⟨ret_int HR.out.symm, rfl⟩
        · have HE := Lib.hid (show endV N (pE (n' + 1) (l.drop k)) = (k : Int) + 1 by
            rw [hd, hd1]
            simp only [pE, hD, if_true, if_neg (show ¬ c = 40 by rintro rfl; exact h40 rfl), endV, List.length_cons, List.length_drop]
            omega)
          rw [← hNe]
          generalize b.toNat = bn at *
          generalize c.toNat = cn at *
          have h40' : ((cn : Int) != 40) = true := by simp; omega
          clear hl hlen ih hd hb hD hc hd1 h40
          go_enter Try.func66, Try.ntmps66
          go_wp2
          go_ret
          exact ⟨ret_int (by first | exact HE.out.symm | (rw [← hNe]; exact HE.out.symm) | fail), rfl⟩
      · have HE := Lib.hid (show endV N (pE (n' + 1) (l.drop k)) = (k : Int) + 1 by
          rw [hd, List.drop_of_length_le (by omega)]
          simp only [pE, hD, if_true, endV, List.length_nil]
          omega)
        rw [← hNe]
        generalize b.toNat = bn at *
        clear hl hlen ih hd hb hD
        go_enter Try.func66, Try.ntmps66
        go_wp2
        go_ret
        exact ⟨ret_int (by first | exact HE.out.symm | (rw [← hNe]; exact HE.out.symm) | fail), rfl⟩
    · have HE := Lib.hid (show endV N (pE (n' + 1) (l.drop k)) = -1 by
        rw [hd]
        cases l.drop (k + 1) <;> simp only [pE, hD] <;> rfl)
      have hlh : b.toNat < 49 ∨ 54 < b.toNat := by simp [isD] at hD; omega
      rw [← hNe]
      generalize b.toNat = bn at *
      clear hl hlen ih hd hb hD
      rcases hlh with hlow | hhi
      · go_enter Try.func66, Try.ntmps66
        go_wp2
        go_ret
        exact ⟨ret_int (by first | exact HE.out.symm | (rw [← hNe]; exact HE.out.symm) | fail), rfl⟩
      · go_enter Try.func66, Try.ntmps66
        go_wp2
        go_ret
        exact ⟨ret_int (by first | exact HE.out.symm | (rw [← hNe]; exact HE.out.symm) | fail), rfl⟩
  · have HE := Lib.hid (show endV N (pE (n' + 1) (l.drop k)) = -1 by rw [List.drop_of_length_le (by omega), pE]; rfl)
    rw [← hNe]
    clear hl hlen ih
    go_enter Try.func66, Try.ntmps66
    go_wp2
    go_ret
    exact ⟨ret_int (by first | exact HE.out.symm | (rw [← hNe]; exact HE.out.symm) | fail), rfl⟩
end Go.Proofs.Ytnfaihgnggmpkaa

/- The program's reader of expressions: its digits and marks by their contracts; trees in memory. -/
namespace Go.Proofs.Ytnfaihgnggmpkaa
open Go.RowKit

theorem drewN_drewN (w : World) (a b : Nat) : ∃ c, (w.drewN a).drewN b = w.drewN c := ⟨_, World.drewN_drewN w a b⟩

/-- The slice at A reads as the values vs, in a block that Q allows. -/
def VL (w : World) (Q : Nat → Prop) (A : Option Addr) (vs : List Value) : Prop :=
  vs = [] ∨ ∃ g off, A = some ⟨g, off, none⟩ ∧ Q g ∧ g < w.heap.size ∧ ∀ j x, vs[j]? = some x → w.cell? ⟨g, off + j, none⟩ = some x
theorem VL.keep {w w' : World} {Q Q' : Nat → Prop} (hs : w.heap.size ≤ w'.heap.size) (hk : ∀ b, Q b → b < w.heap.size → Q' b ∧ w'.heap[b]? = w.heap[b]?) {A : Option Addr} {vs : List Value} (h : VL w Q A vs) : VL w' Q' A vs := by
  rcases h with rfl | ⟨g, off, rfl, hQ, hlt, hc⟩
  · exact .inl rfl
  · exact .inr ⟨g, off, rfl, (hk g hQ hlt).1, by omega, fun j x hx => (World.cell?_of_block (a := ⟨g, off + j, none⟩) (hk g hQ hlt).2).trans (hc j x hx)⟩
end Go.Proofs.Ytnfaihgnggmpkaa

/- The program's recursive reader of expressions by its contract. -/
namespace Go.Proofs.Ytnfaihgnggmpkaa
open Go.RowKit

theorem grown_alloc {a b : World} {row : Option Nat} (h : a.grownBy b row) (o : Obj) : a.grownBy (b.alloc o) row := grown_new h (World.grownBy_alloc b o none) (by simp)

def sliceLen : Value → Nat
  | .slice _ n _ => n
  | _ => 0
/-- Put what was read ahead of what is still to be read. -/
def ahead (es : List Ex) : Option (List Ex × List UInt8) → Option (List Ex × List UInt8)
  | none => none
  | some (xs, r) => some (es ++ xs, r)
theorem own_row {w w1 : World} {base : Nat} {e : TypeId} {v : Value} {n : Nat} {xs : List Value} {row : Option Nat} (h : w.ownsRow base e 1 v n xs) (hg : w.grownBy w1 row) (hr : ∀ b, row = some b → b < base) : w1.ownsRow base e 1 v n xs := by
  refine ⟨h.1, ?_⟩
  rcases h.2 with h0 | ⟨g, cap, cur, hv, hb, hh, rest⟩
  · exact .inl h0
  · exact .inr ⟨g, cap, cur, hv, hb, (hg.block g (Array.getElem?_eq_some_iff.1 hh).1 (fun e => by have := hr g e.symm; omega)).trans hh, rest⟩

end Go.Proofs.Ytnfaihgnggmpkaa

/- Whether a text is an expression: program and model by their contracts. -/
namespace Go.Proofs.Ytnfaihgnggmpkaa
open Go.RowKit

/-- A text's tree. -/
def pT0 (T : ByteArray) : Option Ex := pX T.data.toList
def okX (T : ByteArray) : Bool := (pT0 T).isSome
theorem pT0_40 {T : ByteArray} {x : Ex} (h : pT0 T = some x) : T.size ≤ 40 := by have := (pX_some h).2.2; simpa using this
theorem pT0_big {T : ByteArray} (h : 40 < T.size) : pT0 T = none := by
  unfold pT0 pX; rw [if_neg (by simp; omega)]
theorem pT0_small {T : ByteArray} (h : T.size ≤ 40) : pT0 T = (match pE 81 T.data.toList with | some (e, []) => some e | _ => none) := by
  unfold pT0 pX; rw [if_pos (by simpa using h)]; rfl

theorem below_grown {w w' : World} {o : Obj} (h : (w.alloc o).grownBy w' (some w.heap.size)) : Below w.heap.size w w' :=
  ((Below.refl w.heap.size w).alloc (Nat.le_refl _) o).grown h (by simp) (fun k hk => by injection hk with hk; omega)

theorem l2End_0 (T : ByteArray) (w : World) (h : T.size ≤ 40) : Calls Try.prog 66 #[.string T, .int .i64 0] w fun e w' => e = .returned (.int .i64 (endV T.size (pE 81 T.data.toList))) ∧ w = w' := by
  have := l2End_any 81 T 0 w (Nat.zero_le _) (by omega) (by omega)
  rwa [List.drop_zero] at this
set_option maxRecDepth 100000 in
set_option maxHeartbeats 1600000 in
theorem specValidX (T : ByteArray) (w : World) (hT : T.size ≤ 1048576) : Calls Try.prog 46 #[.string T] w fun e w' => e = .returned (.bool (okX T)) ∧ w = w' := by
  by_cases h40 : T.size ≤ 40
  · have hP := pT0_small h40
    have HC := Lib.hid (l2End_0 T w h40)
    have hne : ∀ x r, pE 81 T.data.toList = some (x, r) → r.length < T.size := fun x r h => by
      have h1 := congrArg List.length ((p_sound 81).1 _ _ _ h).1
      have h2 := tx_pos x
      simp at h1; omega
    have key : (endV T.size (pE 81 T.data.toList) == (T.size : Int)) = okX T ∧ (okX T = true → 0 < T.size) := by
      unfold okX
      rw [hP]
      cases hp : pE 81 T.data.toList with
      | none => simp [endV] <;> omega
      | some y =>
        obtain ⟨x, r⟩ := y
        have := hne x r hp
        cases r with
        | nil => simp [endV] <;> omega
        | cons c r => simp at this; simp [endV] <;> omega
    obtain ⟨R, hR⟩ : ∃ R, R = endV T.size (pE 81 T.data.toList) := ⟨_, rfl⟩
    rw [← hR] at key
    have HR := Lib.hid hR
    have HK := Lib.hid key.1
    clear hP hne hR
    cases hok : okX T with
    | false =>
      rw [hok] at key
      have hq := key.1
      clear key
      go_enter Try.func46, Try.ntmps46
      go_wp2_with (go_at_call 66; refine HC.out.mono ?_; rintro e w' ⟨rfl, rfl⟩; rw [← HR.out])
      go_ret
      exact ⟨rfl, rfl⟩
    | true =>
      rw [hok] at key
      have hq := key.1
      have h0 := key.2 rfl
      clear key
      go_enter Try.func46, Try.ntmps46
      go_wp2_with (go_at_call 66; refine HC.out.mono ?_; rintro e w' ⟨rfl, rfl⟩; rw [← HR.out])
      go_ret
      exact ⟨rfl, rfl⟩
  · have HP := Lib.hid (show okX T = false by simp [okX, pT0_big (T := T) (by omega)])
    go_enter Try.func46, Try.ntmps46
    go_wp2_with fail
    go_ret
    exact ⟨ret_bool HP.out.symm, rfl⟩

end Go.Proofs.Ytnfaihgnggmpkaa

/- The model's functions of expressions by their contracts. -/
namespace Go.Proofs.Ytnfaihgnggmpkaa
open Go.RowKit

/-- The text of a tree as the program holds it. -/
def bx (e : Ex) : ByteArray := ⟨(tx e).toArray⟩
theorem bx_list (e : Ex) : (bx e).data.toList = tx e := by simp [bx]
theorem bx_size (e : Ex) : (bx e).size = (tx e).length := by show (tx e).toArray.size = _; simp
theorem bx_of {T : ByteArray} {x : Ex} (h : pT0 T = some x) : T = bx x ∧ wf x ∧ (tx x).length ≤ 40 := by
  obtain ⟨h1, h2, h3⟩ := pX_some h
  refine ⟨?_, h2, by rw [← h1]; exact h3⟩
  apply ByteArray.ext
  apply Array.toList_inj.1
  rw [h1, bx_list]
theorem ext_of {T : ByteArray} {x : Ex} (h : T.data.toList = tx x) : T = bx x := by
  apply ByteArray.ext
  apply Array.toList_inj.1
  rw [h, bx_list]

/-- The slice at A reads as the texts of the trees. -/
def SL (w : World) (A : Option Addr) (es : List Ex) : Prop :=
  es = [] ∨ ∃ b off, A = some ⟨b, off, none⟩ ∧ b < w.heap.size ∧ ∀ j x, es[j]? = some x → w.cell? ⟨b, off + j, none⟩ = some (.string (bx x))
theorem SL.at_ {w : World} {A : Option Addr} {es : List Ex} {k : Nat} (h : SL w A es) (hk : k < es.length) :
    ∃ b off x, A = some ⟨b, off, none⟩ ∧ es[k]? = some x ∧ w.cell? ⟨b, off + k, none⟩ = some (.string (bx x)) := by
  rcases h with rfl | ⟨b, off, rfl, _, hc⟩
  · simp at hk
  · exact ⟨b, off, es[k], rfl, List.getElem?_eq_getElem hk, hc k _ (List.getElem?_eq_getElem hk)⟩
theorem SL.below {w w' : World} {A : Option Addr} {es : List Ex} (h : SL w A es) (hb : Below w.heap.size w w') : SL w' A es := by
  rcases h with rfl | ⟨b, off, rfl, hlt, hc⟩
  · exact .inl rfl
  · exact .inr ⟨b, off, rfl, Nat.lt_of_lt_of_le hlt hb.size, fun j x hx => (hb.cell (p := ⟨b, off + j, none⟩) hlt).trans (hc j x hx)⟩
theorem SL.of_own {w : World} {base : Nat} {A : Option Addr} {n c : Nat} {es : List Ex} (h : w.ownsRow base 9 1 (.slice A n c) n (es.map fun e => Value.string (bx e))) : SL w A es := by
  rcases h.2 with ⟨_, h0⟩ | ⟨g, cap, cur, hv, hb, hg, _⟩
  · left; exact List.eq_nil_of_length_eq_zero (by have := h.1; simp at this; omega)
  · right
    injection hv with hA
    subst hA
    refine ⟨g, 0, rfl, (Array.getElem?_eq_some_iff.1 hg).1, fun j x hx => ?_⟩
    have := h.cells (g := g) rfl j (.string (bx x)) (by simp [hx])
    rw [Addr.add_lit] at this
    exact this
theorem text_info : (Try.prog.info? 9).map (fun i => (i.zero, i.size, i.bytes)) = some (some (.string ⟨#[]⟩), 1, 16) := by kernel_rfl

/-- Operands as a row of texts in new memory. -/
def Parts (w : World) (es : List Ex) (e : Ending) (w' : World) : Prop :=
  ∃ A c, e = .returned (.slice A es.length c) ∧ SL w' A es ∧ Below w.heap.size w w'

/-- The scan of operands stands at place p behind j of them. -/
def At (l : List UInt8) (es : List Ex) (p j : Nat) : Prop :=
  (j < es.length → ∃ c, l[p]? = some c ∧ c.toNat ≠ 41 ∧ l.drop (p + 1) = txL (es.drop j)) ∧ (j = es.length → l[p]? = some 41)
theorem At.start {k : Nat} {es : List Ex} (h : 1 ≤ es.length) : At (tx (.thr k es)) es 1 0 := by
  refine ⟨fun _ => ⟨40, by simp [tx], by decide, by simp [tx]⟩, fun h0 => by omega⟩
theorem At.step {l : List UInt8} {es : List Ex} {p j : Nat} {e : Ex} (h : At l es p j) (he : es[j]? = some e) (hw : wfL es) (n : Nat) (hn : 2 * l.length + 1 ≤ n) :
    pE n (l.drop (p + 1)) = some (e, txT (es.drop (j + 1))) ∧ p + 1 + (tx e).length + (txT (es.drop (j + 1))).length = l.length ∧
      (l.drop (p + 1)).take (tx e).length = tx e ∧ At l es (l.length - (txT (es.drop (j + 1))).length) (j + 1) := by
  have hj := (List.getElem?_eq_some_iff.1 he).1
  obtain ⟨c, hc, hne, hd⟩ := h.1 hj
  have hp := (List.getElem?_eq_some_iff.1 hc).1
  rw [drop_c he, txL_cons] at hd
  have hlen := congrArg List.length hd
  simp only [List.length_drop, List.length_append] at hlen
  have hwe := wfL_at es hw j e he
  have hd2 : l.drop (p + 1 + (tx e).length) = txT (es.drop (j + 1)) := by
    rw [← List.drop_drop, hd, List.drop_left]
  refine ⟨?_, by omega, by rw [hd, List.take_left], ?_⟩
  · rw [hd]
    have := (p_full n).1 e (txT (es.drop (j + 1))) hwe (by simpa using txT_shut (es.drop (j + 1)) []) (by omega)
    exact this
  · have hq : l.length - (txT (es.drop (j + 1))).length = p + 1 + (tx e).length := by omega
    rw [hq]
    refine ⟨fun hlt => ?_, fun heq => ?_⟩
    · obtain ⟨e2, he2⟩ : ∃ e2, es[j + 1]? = some e2 := ⟨_, List.getElem?_eq_getElem hlt⟩
      rw [drop_c he2, txT_cons] at hd2
      have h0 : l[p + 1 + (tx e).length]? = some 44 := by
        have := congrArg (fun t => t[0]?) hd2
        simpa using this
      refine ⟨44, h0, by decide, ?_⟩
      have := congrArg (List.drop 1) hd2
      rw [List.drop_drop] at this
      rw [this, drop_c he2]
      rfl
    · rw [heq, List.drop_length, txT_nil] at hd2
      have := congrArg (fun t => t[0]?) hd2
      simpa using this

/-- The first j texts. -/
def strs (es : List Ex) (j : Nat) : List Value := (es.take j).map fun e => Value.string (bx e)
theorem strs_step {es : List Ex} {j : Nat} {e : Ex} (he : es[j]? = some e) : strs es (j + 1) = strs es j ++ [.string (bx e)] := by simp [strs, List.take_add_one, he]
theorem strs_all (es : List Ex) : strs es es.length = es.map fun e => Value.string (bx e) := by simp [strs]
theorem parts_app {w wr w1 : World} {v v' : Value} {o : Obj} {es : List Ex} {j : Nat} {e : Ex} (he : es[j]? = some e) (hown : wr.ownsRow w.heap.size 9 1 v j (strs es j)) (hb : Below w.heap.size w wr)
    (hown' : w1.ownsRow w.heap.size 9 1 v' (j + 1) (strs es j ++ [.string (bx e)])) (hg : (wr.alloc o).grownBy w1 v.ownBlock) :
    w1.ownsRow w.heap.size 9 1 v' (j + 1) (strs es (j + 1)) ∧ Below w.heap.size w w1 :=
  ⟨by rw [strs_step he]; exact hown', (hb.alloc hb.size o).grown hg (by have := hb.size; simp; omega) (fun k hk => (hown.lt k hk).1)⟩

theorem cut_text {T : ByteArray} {p n : Nat} {e : Ex} (h : (T.data.toList.drop p).take n = tx e) : T.extract p (p + n) = bx e := by
  apply ext_of
  rw [← h]
  simp [ByteArray.data_extract]

set_option maxRecDepth 100000 in
set_option maxHeartbeats 3200000 in
theorem l2Parts_thr (k : Nat) (es : List Ex) (w : World) (hw : wf (.thr k es)) (hl : (tx (.thr k es)).length ≤ 1000) :
    Calls Try.prog 75 #[.string (bx (.thr k es))] w (Parts w es) := by
  obtain ⟨i0, hi0, hz0, hz1, hz2⟩ := info_parts text_info
  have hw' := hw
  simp only [wf] at hw'
  have H0 := At.start (k := k) (es := es) (by omega)
  obtain ⟨T, hT⟩ : ∃ T, T = bx (.thr k es) := ⟨_, rfl⟩
  obtain ⟨l, hle⟩ : ∃ l, l = tx (.thr k es) := ⟨_, rfl⟩
  have hTl : T.data.toList = l := by rw [hT, hle, bx_list]
  have hTs : T.size = l.length := by rw [hT, hle, bx_size]
  have hl1 : 1 < T.size := by rw [hTs, hle]; simp [tx]
  have hz : ((l.length : Int) == 1) = false := beq_eq_false_iff_ne.2 (by omega)
  rw [← hT]
  rw [← hle] at hl H0
  have HW := Lib.hid hw'.2.2.2
  have he6 := hw'.2.2.1
  have HT := Lib.hid hTl
  have HA := Lib.hid H0
  clear hT hle hw hw' hTl H0
  go_enter Try.func75, Try.ntmps75
  go_wp2_with fail
  go_loopw [3, 4] (fun v a wr => ∃ j p : Nat, j ≤ es.length ∧ p < T.size ∧ a = .int .i64 p ∧ wr.ownsRow w.heap.size 9 1 v j (strs es j) ∧ Below w.heap.size w wr ∧ Hid (At l es p j)) (fun _ a _ => T.size - (intOf a).toNat)
  case atStart => exact ⟨0, 1, Nat.zero_le _, hl1, rfl, World.ownsRow_made w #[] 0 (Nat.le_refl _) (Nat.zero_le _) rfl, (Below.refl _ _).alloc (Nat.le_refl _) _, HA.out⟩
  case round =>
    clear HA
    obtain ⟨j, p, hj, hp, rfl, hown, hbel, hat⟩ := hrel
    by_cases hlt : j < es.length
    · obtain ⟨c, hc, hne, _⟩ := hat.out.1 hlt
      have hi := idx (T := T) (k := p) (b := c) (by rw [HT.out]; exact hc)
      have hne' : ((c.toNat : Int) != 41) = true := by simp; omega
      generalize c.toNat = cn at *
      obtain ⟨e, he⟩ : ∃ e, es[j]? = some e := ⟨_, List.getElem?_eq_getElem hlt⟩
      obtain ⟨s1, s2, s3, s4⟩ := hat.out.step he HW.out (2 * l.length + 1) (Nat.le_refl _)
      have hcall : ∀ w : World, Calls Try.prog 66 #[.string T, .int .i64 ((p : Int) + 1)] w fun r w' => r = .returned (.int .i64 ((p : Int) + 1 + ((tx e).length : Int))) ∧ w = w' := by
        intro w
        have h := l2End_any (2 * l.length + 1) T (p + 1) w (by omega) (by omega) (by omega)
        rw [HT.out, s1, Int.natCast_add] at h
        simp only [endV] at h
        rwa [show (T.size : Int) - ((txT (es.drop (j + 1))).length : Int) = (p : Int) + 1 + ((tx e).length : Int) by omega] at h
      have hcut : T.extract (p + 1) (p + 1 + (tx e).length) = bx e := cut_text (by rw [HT.out]; exact s3)
      have hsl : ∀ w : World, (Instr.slice 9 (.string T) (some (.int .i64 ((p : Int) + 1))) (some (.int .i64 ((p : Int) + 1 + ((tx e).length : Int)))) none).run Try.prog w = .ok (.string (bx e)) w := by
        intro w
        rw [run_slice_string_if w 9 T .i64 .i64 _ _ Try.underlying9, if_pos ⟨by omega, by omega⟩, if_pos ⟨by omega, by omega⟩, ← hcut]
        congr 3
      have HS := Lib.hid s4
      have HC := Lib.hid hcall
      have HE := Lib.hid he
      have hq : l.length - (txT (es.drop (j + 1))).length = p + 1 + (tx e).length := by omega
      rw [hq] at s4
      have HS := Lib.hid s4
      have hpos := tx_pos e
      have hqT : p + 1 + (tx e).length < T.size := by
        have : 1 ≤ (txT (es.drop (j + 1))).length := by cases es.drop (j + 1) <;> simp [txT]
        omega
      have hj6 : j < 6 := by omega
      obtain ⟨m, hm⟩ : ∃ m, m = (tx e).length := ⟨_, rfl⟩
      rw [← hm] at hsl hqT hpos
      have HM := Lib.hid hm
      clear hc hne he s1 s2 s3 s4 hcall hcut hat hq hm
      go_wp2_with (first
        | (go_at_call 66; refine (HC.out _).mono ?_; rintro e w' ⟨rfl, rfl⟩; rw [← HM.out])
        | (at_builtin; refine wpList_append_own _ rfl (.tmp 19) (.tmp 25) 69 rfl w.heap.size 9 i0 (.string ⟨#[]⟩) 1 16 Try.underlying69 hi0 hz0 hz1 hz2 rfl (by decide) _ _ _ rfl (hown.alloc _) ⟨wr.heap.size, 0, none⟩ 1 1 [.string (bx e)] rfl rfl (cell_one_new _ _ _) (by intro u hu; simp at hu; subst hu; rfl) (by unfold maxLen; omega) (by omega) (by have := hbel.size; simp; omega) ?_)
        | fail)
      intro v' w1 hown' hgrow _
      have R := Lib.hid (parts_app HE.out hown hbel hown' hgrow)
      clear hown hown' hgrow hbel
      go_wp2_with fail
      go_roundw
      case rel => exact ⟨j + 1, p + 1 + m, by omega, hqT, by go_num, R.out.1, R.out.2, by rw [HM.out]; exact HS.out⟩
      case measure => simp [intOf]; omega
    · have hjl : j = es.length := by omega
      subst hjl
      have hi := idx (T := T) (k := p) (b := 41) (by rw [HT.out]; exact hat.out.2 rfl)
      rw [strs_all] at hown
      obtain ⟨A, c, rfl⟩ := own_slice hown
      have R := Lib.hid (show Parts w es (.returned (.slice A es.length c)) wr from ⟨A, c, rfl, SL.of_own hown, hbel⟩)
      clear hown hbel hat
      go_wp2_with fail
      go_ret
      exact R.out

theorem l2Parts_mem (m : Nat) (w : World) : Calls Try.prog 75 #[.string (bx (.mem m))] w (Parts w []) := by
  have hs : (bx (.mem m)).size = 1 := by rw [bx_size]; simp [tx]
  generalize bx (.mem m) = T at *
  have hz : ((T.size : Int) == 1) = true := beq_iff_eq.2 (by omega)
  go_enter Try.func75, Try.ntmps75
  go_wp2_with fail
  go_ret
  exact ⟨_, _, rfl, .inl rfl, (Below.refl _ _).alloc (Nat.le_refl _) _⟩
end Go.Proofs.Ytnfaihgnggmpkaa

/- The model's depth, members and satisfaction by their contracts. -/
namespace Go.Proofs.Ytnfaihgnggmpkaa
open Go.RowKit

def ops : Ex → List Ex
  | .mem _ => []
  | .thr _ es => es
theorem dep_ops (e : Ex) : dep e = depL (ops e) := by cases e <;> simp [dep, ops, depL]
theorem ops_at {e : Ex} {j : Nat} {x : Ex} (hw : wf e) (h : (ops e)[j]? = some x) : wf x ∧ (tx x).length + 2 ≤ (tx e).length := by
  cases e with
  | mem m => simp [ops] at h
  | thr k es => exact ⟨wf_at hw h, tx_at h⟩
theorem ops_len {e : Ex} (hw : wf e) : (ops e).length ≤ 6 := by
  cases e with
  | mem m => simp [ops]
  | thr k es => simp only [wf] at hw; exact hw.2.2.1
theorem l2Parts_any (e : Ex) (w : World) (hw : wf e) (hl : (tx e).length ≤ 1000) : Calls Try.prog 75 #[.string (bx e)] w (Parts w (ops e)) := by
  cases e with
  | mem m => exact l2Parts_mem m w
  | thr k es => exact l2Parts_thr k es w hw hl

theorem idx0 {T : ByteArray} {b : UInt8} (h : T.data.toList[0]? = some b) (w : World) : (Instr.index 9 (.string T) (.int .i64 0)).run Try.prog w = .ok (.int .u8 b.toNat) w := idx (k := 0) h w

set_option maxRecDepth 100000 in
set_option maxHeartbeats 3200000 in
theorem l2Sat_any (s : Nat) (hs : s < 64) (A : Option Addr) (c : Nat) (n : Nat) : ∀ (x : Ex) (w : World), (tx x).length ≤ n → n ≤ 1000 → wf x → IL w A (mem s) →
    Calls Try.prog 67 #[.string (bx x), .slice A (mem s).length c] w fun e w' => e = .returned (.bool (sat s x)) ∧ Below w.heap.size w w' := by
  induction n with
  | zero => intro x w h; have := tx_pos x; omega
  | succ n ih =>
    intro x w hn hm hw hA
    have hml := mem_len s
    cases x with
    | mem m =>
      simp only [wf] at hw
      have hi := idx0 (T := bx (.mem m)) (b := dg m) (by rw [bx_list]; simp [tx])
      have hbe : ((dg m).toNat : Int) - 48 = (m : Int) := by rw [dg_toNat (show m ≤ 9 by omega)]; omega
      have hbl : 48 ≤ (dg m).toNat ∧ (dg m).toNat ≤ 54 := by rw [dg_toNat (show m ≤ 9 by omega)]; omega
      obtain ⟨hb1, hb2⟩ := hbl
      generalize (dg m).toNat = bn at *
      have hsz : (bx (.mem m)).size = 1 := by rw [bx_size]; simp [tx]
      have HR := Lib.hid (show has (mem s) (m : Int) = sat s (.mem m) by simp only [sat]; exact has_mem_bit hs hw.1 hw.2)
      generalize bx (.mem m) = T at *
      generalize sat s (.mem m) = R at *
      have hz : ((T.size : Int) == 1) = true := beq_iff_eq.2 (by omega)
      have HC := Lib.hid (fun w' (h : IL w' A (mem s)) => l1Contains_any A c (mem s) (m : Int) w' h (by omega))
      generalize mem s = l at *
      obtain ⟨hm1, hm6⟩ := hw
      clear ih
      go_enter Try.func67, Try.ntmps67
      go_wp2_with fail
      refine (HC.out _ hA).mono ?_
      rintro e w' ⟨rfl, rfl⟩
      go_wp2_with fail
      go_ret
      exact ⟨ret_bool HR.out, Below.refl _ _⟩
    | thr k es =>
      have hw' := hw
      simp only [wf] at hw'
      have hi := idx0 (T := bx (.thr k es)) (b := dg k) (by rw [bx_list]; simp [tx])
      have hbe : ((dg k).toNat : Int) - 48 = (k : Int) := by rw [dg_toNat (show k ≤ 9 by omega)]; omega
      have hbl : 48 ≤ (dg k).toNat ∧ (dg k).toNat ≤ 54 := by rw [dg_toNat (show k ≤ 9 by omega)]; omega
      obtain ⟨hb1, hb2⟩ := hbl
      generalize (dg k).toNat = bn at *
      have hsz : 2 ≤ (bx (.thr k es)).size := by rw [bx_size]; simp [tx]
      have HP := Lib.hid (fun w => l2Parts_any (.thr k es) w hw (by omega))
      have hat : ∀ (j : Nat) (y : Ex), es[j]? = some y → wf y ∧ (tx y).length ≤ n := fun j y h => by
        have h1 := tx_at (k := k) h
        exact ⟨wf_at hw h, by omega⟩
      have HR := Lib.hid (show decide (k ≤ satL s es) = sat s (.thr k es) by simp only [sat])
      generalize bx (.thr k es) = T at *
      generalize sat s (.thr k es) = R at *
      have hz : ((T.size : Int) == 1) = false := beq_eq_false_iff_ne.2 (by omega)
      obtain ⟨hk1, hk2, h6, _⟩ := hw'
      have HA := Lib.hid hat
      have hsl := satL_le s es
      clear hat hw hsz
      simp only [ops] at HP
      go_enter Try.func67, Try.ntmps67
      go_wp2_with fail
      refine (HP.out _).mono ?_
      rintro e w1 ⟨AP, cP, rfl, hS, b1⟩
      have hA1 := hA.below b1
      clear HP hA
      go_wp2_with fail
      go_loopw [7, 8] (fun h i wr => ∃ j hv : Nat, j ≤ es.length ∧ i = .int .i64 j ∧ h = .int .i64 hv ∧ hv ≤ j ∧ Below w1.heap.size w1 wr ∧ Hid (hv + satL s (es.drop j) = satL s es)) (fun _ i _ => es.length - (intOf i).toNat)
      case atStart => exact ⟨0, 0, Nat.zero_le _, rfl, rfl, Nat.zero_le _, Below.refl _ _, Lib.hid (by rw [List.drop_zero]; simp)⟩
      case round =>
        obtain ⟨j, hv, hj, rfl, rfl, hhv, hbel, hmx⟩ := hrel
        by_cases hlt : j < es.length
        · obtain ⟨b, off, y, rfl, hy, hc⟩ := (hS.below hbel).at_ hlt
          obtain ⟨hwy, hyn⟩ := HA.out j y hy
          have hmx' := hmx.out
          rw [drop_c hy] at hmx'
          simp only [satL] at hmx'
          have HI := Lib.hid (ih y wr hyn (by omega) hwy (hA1.below hbel))
          have HM := Lib.hid hmx'
          clear hmx hmx' hy hwy hyn ih
          generalize bx y = Y at *
          cases hsy : sat s y with
          | true =>
            rw [hsy] at HI HM
            go_wp2_with fail
            refine HI.out.mono ?_
            rintro e w2 ⟨rfl, b2⟩
            have b3 := below_step hbel b2
            clear hbel b2 HI
            go_wp2_with fail
            go_roundw
            case rel => exact ⟨j + 1, hv + 1, by omega, by go_num, by go_num, by omega, b3, Lib.hid (by have := HM.out; simp at this; omega)⟩
            case measure => simp [intOf]; omega
          | false =>
            rw [hsy] at HI HM
            go_wp2_with fail
            refine HI.out.mono ?_
            rintro e w2 ⟨rfl, b2⟩
            have b3 := below_step hbel b2
            clear hbel b2 HI
            go_wp2_with fail
            go_roundw
            case rel => exact ⟨j + 1, hv, by omega, by go_num, rfl, by omega, b3, Lib.hid (by have := HM.out; simp at this; omega)⟩
            case measure => simp [intOf]; omega
        · have hE : hv = satL s es := by have := hmx.out; rw [List.drop_of_length_le (by omega)] at this; simpa [satL] using this
          have HE := Lib.hid (show decide (k ≤ hv) = R by rw [← HR.out, hE])
          have b3 := below_step b1 hbel
          clear hmx hbel ih HA hE
          go_wp2_with fail
          go_ret
          exact ⟨ret_bool HE.out, b3⟩

theorem one_new (w : World) (x : Int) : New w [x] (.returned (.slice (some ⟨w.heap.size, 0, none⟩) 1 1)) (w.alloc (.cells #[.int .i64 x] 3)) :=
  ⟨_, 1, rfl, ⟨rfl, .inr ⟨w.heap.size, 1, _, rfl, Nat.le_refl _, heap_alloc_new w _, Nat.le_refl _, by unfold maxLen; omega, rfl, rfl⟩⟩, (Below.refl _ _).alloc (Nat.le_refl _) _⟩
end Go.Proofs.Ytnfaihgnggmpkaa

/- The program's functions of trees by their contracts. -/
namespace Go.Proofs.Ytnfaihgnggmpkaa
open Go.RowKit

theorem VL.at_ {w : World} {Q : Nat → Prop} {A : Option Addr} {vs : List Value} {j : Nat} {u : Value} (h : VL w Q A vs) (hj : vs[j]? = some u) : ∃ g off, A = some ⟨g, off, none⟩ ∧ w.cell? ⟨g, off + j, none⟩ = some u := by
  rcases h with rfl | ⟨g, off, rfl, _, _, hc⟩
  · simp at hj
  · exact ⟨g, off, rfl, hc j u hj⟩
end Go.Proofs.Ytnfaihgnggmpkaa

/- Whether a set satisfies a tree, the program's, by its contract. -/
namespace Go.Proofs.Ytnfaihgnggmpkaa
open Go.RowKit

end Go.Proofs.Ytnfaihgnggmpkaa

/- Depth, members and satisfaction of texts: program and model by their contracts; the walks of the exact laws. -/
namespace Go.Proofs.Ytnfaihgnggmpkaa
open Go.RowKit

def depR (T : ByteArray) : Int := match pT0 T with | none => -1 | some x => (dep x : Int)
def memX (T : ByteArray) : List Int := match pT0 T with | none => [] | some x => mem (ms x)
def satX (T : ByteArray) (l : List Int) : Bool := match pT0 T with | none => false | some x => vld l && sat (msk l) x
theorem memX_len (T : ByteArray) : (memX T).length ≤ 6 := by unfold memX; split; simp; exact mem_len _
theorem spec_no (T : ByteArray) (w : World) (hT : T.size ≤ 1048576) (h : pT0 T = none) : Calls Try.prog 46 #[.string T] w fun e w' => e = .returned (.bool false) ∧ w = w' := by
  have := specValidX T w hT
  rwa [show okX T = false by simp [okX, h]] at this
theorem spec_yes (T : ByteArray) (w : World) (hT : T.size ≤ 1048576) {x : Ex} (h : pT0 T = some x) : Calls Try.prog 46 #[.string T] w fun e w' => e = .returned (.bool true) ∧ w = w' := by
  have := specValidX T w hT
  rwa [show okX T = true by simp [okX, h]] at this

end Go.Proofs.Ytnfaihgnggmpkaa
