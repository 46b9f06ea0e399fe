/- Quorum expressions as trees, their texts, and a parser of texts; plain facts, no program. -/
import Derived.Test.YtgbijndfpbcjeaaMath
namespace Go.Proofs.Ytgbijndfpbcjeaa

inductive Ex where
  | mem (m : Nat)
  | thr (k : Nat) (es : List Ex)

def dg (k : Nat) : UInt8 := UInt8.ofNat (48 + k)
def isD (b : UInt8) : Bool := decide (49 ≤ b.toNat) && decide (b.toNat ≤ 54)
theorem dg_toNat {k : Nat} (h : k ≤ 9) : (dg k).toNat = 48 + k := by
  have H : ∀ n : Fin 10, (dg n.val).toNat = 48 + n.val := by decide
  exact H ⟨k, by omega⟩
theorem isD_dg {k : Nat} (h1 : 1 ≤ k) (h2 : k ≤ 6) : isD (dg k) = true := by
  simp [isD, dg_toNat (show k ≤ 9 by omega)]; omega
theorem dg_of {b : UInt8} (h : isD b = true) : dg (b.toNat - 48) = b ∧ 1 ≤ b.toNat - 48 ∧ b.toNat - 48 ≤ 6 := by
  simp [isD] at h
  refine ⟨?_, by omega, by omega⟩
  apply UInt8.toNat_inj.1
  rw [dg_toNat (by omega)]; omega

mutual
/-- The text of a tree. -/
def tx : Ex → List UInt8
  | .mem m => [dg m]
  | .thr k es => dg k :: 40 :: txL es
/-- The texts of operands, each with what follows it. -/
def txL : List Ex → List UInt8
  | [] => [41]
  | e :: es => tx e ++ txT es
def txT : List Ex → List UInt8
  | [] => [41]
  | e :: es => 44 :: (tx e ++ txT es)
end
theorem txL_cons (e : Ex) (es : List Ex) : txL (e :: es) = tx e ++ txT es := by simp [txL]
theorem txT_cons (e : Ex) (es : List Ex) : txT (e :: es) = 44 :: txL (e :: es) := by simp [txL, txT]
theorem txT_nil : txT [] = [41] := by simp [txT]

mutual
def wf : Ex → Prop
  | .mem m => 1 ≤ m ∧ m ≤ 6
  | .thr k es => 1 ≤ k ∧ k ≤ es.length ∧ es.length ≤ 6 ∧ wfL es
def wfL : List Ex → Prop
  | [] => True
  | e :: es => wf e ∧ wfL es
end

mutual
/-- Parses one expression ahead of a rest; the number bounds the calls. -/
def pE : Nat → List UInt8 → Option (Ex × List UInt8)
  | 0, _ => none
  | _ + 1, [] => none
  | n + 1, b :: r => if isD b = true then
      (match r with
      | [] => some (.mem (b.toNat - 48), [])
      | c :: r' => if c = 40 then
          (match pL n 6 r' with
          | none => none
          | some (es, r2) => if b.toNat - 48 ≤ es.length then some (.thr (b.toNat - 48) es, r2) else none)
          else some (.mem (b.toNat - 48), c :: r'))
    else none
/-- Parses at most k operands, and the parenthesis behind them. -/
def pL : Nat → Nat → List UInt8 → Option (List Ex × List UInt8)
  | 0, _, _ => none
  | _ + 1, 0, _ => none
  | n + 1, k + 1, r => match pE n r with
      | none => none
      | some (e, r1) => match pT n k r1 with
        | none => none
        | some (es, r2) => some (e :: es, r2)
/-- What follows an operand. -/
def pT : Nat → Nat → List UInt8 → Option (List Ex × List UInt8)
  | 0, _, _ => none
  | _ + 1, _, [] => none
  | n + 1, k, c :: r => if c = 41 then some ([], r) else if c = 44 then pL n k r else none
end

theorem p_sound (n : Nat) :
    (∀ r e r', pE n r = some (e, r') → r = tx e ++ r' ∧ wf e) ∧
    (∀ k r es r', pL n k r = some (es, r') → r = txL es ++ r' ∧ wfL es ∧ es.length ≤ k ∧ 1 ≤ es.length) ∧
    (∀ k r es r', pT n k r = some (es, r') → r = txT es ++ r' ∧ wfL es ∧ es.length ≤ k) := by
  induction n with
  | zero => exact ⟨fun r e r' h => by simp [pE] at h, fun k r es r' h => by simp [pL] at h, fun k r es r' h => by simp [pT] at h⟩
  | succ n ih =>
    obtain ⟨ihE, ihL, ihT⟩ := ih
    refine ⟨?_, ?_, ?_⟩
    · intro r e r' h
      cases r with
      | nil => simp [pE] at h
      | cons b r =>
        cases hb : isD b with
        | false => cases r <;> simp [pE, hb] at h
        | true =>
          obtain ⟨hd, hd1, hd2⟩ := dg_of hb
          cases r with
          | nil =>
            simp only [pE, hb, if_true, Option.some.injEq, Prod.mk.injEq] at h
            obtain ⟨rfl, rfl⟩ := h
            simp [tx, wf, hd, hd1, hd2]
          | cons c r =>
            simp only [pE, hb, if_true] at h
            split at h
            · rename_i hc
              subst hc
              split at h
              · cases h
              · rename_i es r2 hp
                obtain ⟨h1, h2, h3, h4⟩ := ihL _ _ _ _ hp
                split at h
                · rename_i hk
                  simp only [Option.some.injEq, Prod.mk.injEq] at h
                  obtain ⟨rfl, rfl⟩ := h
                  simp [tx, wf, hd, hd1, hk, h2, h3, h1]
                · cases h
            · simp only [Option.some.injEq, Prod.mk.injEq] at h
              obtain ⟨rfl, rfl⟩ := h
              simp [tx, wf, hd, hd1, hd2]
    · intro k r es r' h
      cases k with
      | zero => simp [pL] at h
      | succ k =>
        rw [pL] at h
        split at h
        · cases h
        · rename_i e r1 hp
          split at h
          · cases h
          · rename_i es r2 hp2
            obtain ⟨a1, a2⟩ := ihE _ _ _ hp
            obtain ⟨b1, b2, b3⟩ := ihT _ _ _ _ hp2
            simp only [Option.some.injEq, Prod.mk.injEq] at h
            obtain ⟨rfl, rfl⟩ := h
            refine ⟨by rw [txL_cons, a1, b1]; simp, by simp [wfL, a2, b2], by simp; omega, by simp⟩
    · intro k r es r' h
      cases r with
      | nil => simp [pT] at h
      | cons c r =>
        rw [pT] at h
        split at h
        · rename_i hc
          subst hc
          simp only [Option.some.injEq, Prod.mk.injEq] at h
          obtain ⟨rfl, rfl⟩ := h
          simp [txT, wfL]
        · split at h
          · rename_i hc
            subst hc
            obtain ⟨h1, h2, h3, h4⟩ := ihL _ _ _ _ h
            cases es with
            | nil => simp at h4
            | cons e es => refine ⟨by rw [txT_cons, h1]; rfl, h2, h3⟩
          · cases h

/-- A rest that no threshold opens. -/
def Shut (r : List UInt8) : Prop := ∀ c t, r = c :: t → c ≠ 40
theorem txT_shut (es : List Ex) (r : List UInt8) : Shut (txT es ++ r) := by
  cases es with
  | nil => intro c t h; simp [txT] at h; rw [← h.1]; decide
  | cons e es => intro c t h; rw [txT_cons] at h; simp at h; rw [← h.1]; decide

theorem p_full (n : Nat) :
    (∀ e r, wf e → Shut r → 2 * (tx e).length + 1 ≤ n → pE n (tx e ++ r) = some (e, r)) ∧
    (∀ es k r, wfL es → es ≠ [] → es.length ≤ k → 2 * (txL es).length + 2 ≤ n → pL n k (txL es ++ r) = some (es, r)) ∧
    (∀ es k r, wfL es → es.length ≤ k → 2 * (txT es).length + 1 ≤ n → pT n k (txT es ++ r) = some (es, r)) := by
  induction n with
  | zero => exact ⟨fun e r _ _ h => by omega, fun es k r _ _ _ h => by omega, fun es k r _ _ h => by omega⟩
  | succ n ih =>
    obtain ⟨ihE, ihL, ihT⟩ := ih
    refine ⟨?_, ?_, ?_⟩
    · intro e r hw hs hn
      cases e with
      | mem m =>
        simp only [wf] at hw
        have e1 : (dg m).toNat - 48 = m := by rw [dg_toNat (by omega)]; omega
        cases r with
        | nil => simp [tx, pE, isD_dg hw.1 hw.2, e1]
        | cons c t => simp [tx, pE, isD_dg hw.1 hw.2, e1, hs c t rfl]
      | thr k es =>
        simp only [wf] at hw
        simp only [tx, List.length_cons] at hn
        have e1 : (dg k).toNat - 48 = k := by rw [dg_toNat (by omega)]; omega
        have := ihL es 6 r hw.2.2.2 (by rintro rfl; simp at hw; omega) hw.2.2.1 (by omega)
        simp only [tx, List.cons_append, pE, isD_dg hw.1 (show k ≤ 6 by omega), if_true, e1, this, hw.2.1]
    · intro es k r hw hne hk hn
      cases es with
      | nil => exact absurd rfl hne
      | cons e es =>
        cases k with
        | zero => simp at hk
        | succ k =>
          simp only [wfL] at hw
          simp only [List.length_cons] at hk
          have hl : (txL (e :: es)).length = (tx e).length + (txT es).length := by rw [txL_cons]; simp
          have hl1 : 1 ≤ (txT es).length := by cases es <;> simp [txT]
          have hl2 : 1 ≤ (tx e).length := by cases e <;> simp [tx]
          rw [txL_cons, List.append_assoc, pL, ihE e (txT es ++ r) hw.1 (txT_shut es r) (by omega)]
          simp only
          rw [ihT es k r hw.2 (by omega) (by omega)]
    · intro es k r hw hk hn
      cases es with
      | nil => simp [txT, pT]
      | cons e es =>
        rw [txT_cons] at hn ⊢
        simp only [List.length_cons] at hn
        rw [List.cons_append, pT, if_neg (by decide), if_pos rfl]
        exact ihL _ _ _ hw (by simp) hk (by omega)

theorem tx_pos (e : Ex) : 1 ≤ (tx e).length := by cases e <;> simp [tx]
/-- What a text of an expression is: enough calls, and no rest. -/
def pX (t : List UInt8) : Option Ex := if t.length ≤ 40 then (match pE 81 t with | some (e, []) => some e | _ => none) else none
theorem pX_some {t : List UInt8} {e : Ex} (h : pX t = some e) : t = tx e ∧ wf e ∧ t.length ≤ 40 := by
  unfold pX at h
  split at h
  · rename_i hl
    split at h
    · rename_i e' hp
      injection h with h
      subst h
      obtain ⟨h1, h2⟩ := (p_sound 81).1 _ _ _ hp
      exact ⟨by simpa using h1, h2, hl⟩
    · cases h
  · cases h
theorem pX_tx {e : Ex} (hw : wf e) (hl : (tx e).length ≤ 40) : pX (tx e) = some e := by
  have := (p_full 81).1 e [] hw (fun c t h => by cases h) (by omega)
  rw [List.append_nil] at this
  simp [pX, hl, this]
theorem tx_inj {e e' : Ex} (hw : wf e) (hw' : wf e') (h : tx e = tx e') : e = e' := by
  have h1 := (p_full (2 * (tx e).length + 1)).1 e [] hw (fun c t h => by cases h) (by omega)
  have h2 := (p_full (2 * (tx e).length + 1)).1 e' [] hw' (fun c t h => by cases h) (by rw [h]; omega)
  rw [h] at h1
  rw [h, h1] at h2
  injection h2 with h2
  injection h2
end Go.Proofs.Ytgbijndfpbcjeaa
