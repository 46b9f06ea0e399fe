/- Whether a text is an expression: program and model by their contracts. -/
import Derived.Test.YtgbijndfpbcjeaaRead
namespace Go.Proofs.Ytgbijndfpbcjeaa
open Go.RowKit

/-- A text's tree. -/
def pT0 (T : ByteArray) : Option Ex := pX T.data.toList
def okX (T : ByteArray) : Bool := (pT0 T).isSome
theorem pT0_40 {T : ByteArray} {x : Ex} (h : pT0 T = some x) : T.size ≤ 40 := by have := (pX_some h).2.2; simpa using this
theorem pT0_big {T : ByteArray} (h : 40 < T.size) : pT0 T = none := by
  unfold pT0 pX; rw [if_neg (by simp; omega)]
theorem pT0_small {T : ByteArray} (h : T.size ≤ 40) : pT0 T = (match pE 81 T.data.toList with | some (e, []) => some e | _ => none) := by
  unfold pT0 pX; rw [if_pos (by simpa using h)]; rfl

/-- What the reading of a text leaves. -/
def ResX (w : World) (T : ByteArray) (e : Ending) (w' : World) : Prop :=
  Below w.heap.size w w' ∧ ((pT0 T = none ∧ e = .returned (.tuple #[.nilIface, .bool false])) ∨
    ∃ x v, pT0 T = some x ∧ e = .returned (.tuple #[v, .bool true]) ∧ Tr w' (fun b => w.heap.size ≤ b) x v)

theorem below_grown {w w' : World} {o : Obj} (h : (w.alloc o).grownBy w' (some w.heap.size)) : Below w.heap.size w w' :=
  ((Below.refl w.heap.size w).alloc (Nat.le_refl _) o).grown h (by simp) (fun k hk => by injection hk with hk; omega)

set_option maxRecDepth 100000 in
set_option maxHeartbeats 1600000 in
theorem parse_any (T : ByteArray) (w : World) (hT : T.size ≤ 1048576) : Calls Try.prog 63 #[.string T] w (ResX w T) := by
  by_cases h40 : T.size ≤ 40
  · have hP := pT0_small h40
    have hps : PS (w.alloc (.cells #[.string T, .int .i64 0] 103)) w.heap.size T 0 := heap_alloc_new w _
    have HC := Lib.hid ((expr_ok 81).1 w.heap.size 0 T _ hps (Nat.zero_le _) (by omega) (by omega))
    clear hps
    go_enter Try.func63, Try.ntmps63
    go_wp2_with fail
    refine HC.out.mono ?_
    rintro e w1 ⟨g1, ⟨hn, rfl⟩ | ⟨x, r, v, hs, rfl, ht, p1⟩⟩
    · rw [List.drop_zero] at hn
      rw [hn] at hP
      have b1 := below_grown g1
      have HP := Lib.hid hP
      clear HC g1 hn hP
      go_wp2_with fail
      go_ret2
      exact ⟨b1, .inl ⟨HP.out, rfl⟩⟩
    · rw [List.drop_zero] at hs
      have b1 := below_grown g1
      have hrl : r.length ≤ T.size := by
        have := congrArg List.length ((p_sound 81).1 _ _ _ hs).1
        simp at this; omega
      rw [hs] at hP
      have c1 : w1.cell? ⟨w.heap.size, 1, none⟩ = some (.int .i64 ((T.size - r.length : Nat) : Int)) := by rw [cell_of_row w1 w.heap.size 1 _ _ (0, 0) p1]; rfl
      obtain ⟨q, hq⟩ : ∃ q, q = T.size - r.length := ⟨_, rfl⟩
      rw [← hq] at c1
      cases r with
      | nil =>
        have HP := Lib.hid (show pT0 T = some x from hP)
        have hq2 : q = T.size := by simpa using hq
        subst hq2
        have HT := Lib.hid (Tr.keep (Q' := fun b => w.heap.size ≤ b) (Nat.le_refl _) (fun b hb _ => ⟨by simp at hb; omega, rfl⟩) _ _ ht)
        clear HC g1 hs hP p1 hq ht
        go_wp2_with fail
        go_ret2
        exact ⟨b1, .inr ⟨x, v, HP.out, rfl, HT.out⟩⟩
      | cons c r =>
        have HP := Lib.hid (show pT0 T = none from hP)
        have hq2 : q < T.size := by simp at hq hrl; omega
        clear HC g1 hs hP p1 hq ht hrl
        go_wp2_with fail
        go_ret2
        exact ⟨b1, .inl ⟨HP.out, rfl⟩⟩
  · have HP := Lib.hid (pT0_big (T := T) (by omega))
    go_enter Try.func63, Try.ntmps63
    go_wp2_with fail
    go_ret2
    exact ⟨Below.refl _ _, .inl ⟨HP.out, rfl⟩⟩

theorem l2End_0 (T : ByteArray) (w : World) (h : T.size ≤ 40) : Calls Try.prog 95 #[.string T, .int .i64 0] w fun e w' => e = .returned (.int .i64 (endV T.size (pE 81 T.data.toList))) ∧ w = w' := by
  have := l2End_any 81 T 0 w (Nat.zero_le _) (by omega) (by omega)
  rwa [List.drop_zero] at this
set_option maxRecDepth 100000 in
set_option maxHeartbeats 1600000 in
theorem specValidX (T : ByteArray) (w : World) (hT : T.size ≤ 1048576) : Calls Try.prog 61 #[.string T] w fun e w' => e = .returned (.bool (okX T)) ∧ w = w' := by
  by_cases h40 : T.size ≤ 40
  · have hP := pT0_small h40
    have HC := Lib.hid (l2End_0 T w h40)
    have hne : ∀ x r, pE 81 T.data.toList = some (x, r) → r.length < T.size := fun x r h => by
      have h1 := congrArg List.length ((p_sound 81).1 _ _ _ h).1
      have h2 := tx_pos x
      simp at h1; omega
    have key : (endV T.size (pE 81 T.data.toList) == (T.size : Int)) = okX T ∧ (okX T = true → 0 < T.size) := by
      unfold okX
      rw [hP]
      cases hp : pE 81 T.data.toList with
      | none => simp [endV] <;> omega
      | some y =>
        obtain ⟨x, r⟩ := y
        have := hne x r hp
        cases r with
        | nil => simp [endV] <;> omega
        | cons c r => simp at this; simp [endV] <;> omega
    obtain ⟨R, hR⟩ : ∃ R, R = endV T.size (pE 81 T.data.toList) := ⟨_, rfl⟩
    rw [← hR] at key
    have HR := Lib.hid hR
    have HK := Lib.hid key.1
    clear hP hne hR
    cases hok : okX T with
    | false =>
      rw [hok] at key
      have hq := key.1
      clear key
      go_enter Try.func61, Try.ntmps61
      go_wp2_with (go_at_call 95; refine HC.out.mono ?_; rintro e w' ⟨rfl, rfl⟩; rw [← HR.out])
      go_ret
      exact ⟨rfl, rfl⟩
    | true =>
      rw [hok] at key
      have hq := key.1
      have h0 := key.2 rfl
      clear key
      go_enter Try.func61, Try.ntmps61
      go_wp2_with (go_at_call 95; refine HC.out.mono ?_; rintro e w' ⟨rfl, rfl⟩; rw [← HR.out])
      go_ret
      exact ⟨rfl, rfl⟩
  · have HP := Lib.hid (show okX T = false by simp [okX, pT0_big (T := T) (by omega)])
    go_enter Try.func61, Try.ntmps61
    go_wp2_with fail
    go_ret
    exact ⟨ret_bool HP.out.symm, rfl⟩

end Go.Proofs.Ytgbijndfpbcjeaa
