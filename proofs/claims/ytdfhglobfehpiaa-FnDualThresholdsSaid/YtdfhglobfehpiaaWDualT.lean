/- The walk of the law that duality exchanges conjunction and disjunction. -/
import Derived.Test.YtdfhglobfehpiaaWDual
import Derived.Test.YtdfhglobfehpiaaLawX
namespace Go.Proofs.Ytdfhglobfehpiaa
open Go.RowKit

/-- Two operands, the second a member. -/
theorem pairT {T : ByteArray} {x : Ex} {k m : Nat} (h : pT0 T = some x) (hk : 1 ≤ k) (hk2 : k ≤ 2) (hm : 1 ≤ m) (hm6 : m ≤ 6) (hl : T.size + 5 ≤ 40) :
    pT0 (⟨#[dg k, 40]⟩ ++ T ++ ⟨#[44]⟩ ++ ⟨#[dg m]⟩ ++ ⟨#[41]⟩) = some (.thr k [x, .mem m]) := by
  obtain ⟨h1, h2⟩ := pT0_tx h
  refine pT0_of ?_ ?_ ?_
  · rw [data_app, data_app, data_app, data_app, h1]
    simp [tx, txL, txT]
  · simp only [wf, wfL, List.length_cons, List.length_nil]
    exact ⟨hk, by omega, by omega, h2, ⟨hm, hm6⟩, trivial⟩
  · simp only [ByteArray.size_append]
    show 2 + T.size + 1 + 1 + 1 ≤ 40
    omega
theorem pairD {T : ByteArray} {x : Ex} {k m : Nat} (h : pT0 T = some x) (hk : 1 ≤ k) (hk2 : k ≤ 2) (hm : 1 ≤ m) (hm6 : m ≤ 6) (hl : T.size + 5 ≤ 40) :
    dualX (⟨#[dg k, 40]⟩ ++ T ++ ⟨#[44]⟩ ++ ⟨#[dg m]⟩ ++ ⟨#[41]⟩) = ⟨#[dg (3 - k), 40]⟩ ++ dualX T ++ ⟨#[44]⟩ ++ ⟨#[dg m]⟩ ++ ⟨#[41]⟩ := by
  have h1 : dualX T = bx (dual x) := by simp [dualX, h]
  rw [h1]
  unfold dualX
  rw [pairT h hk hk2 hm hm6 hl]
  simp only
  symm
  apply ext_of
  rw [data_app, data_app, data_app, data_app, bx_list]
  simp only [dual, dualL, tx, txL, txT, List.length_cons, List.length_nil]
  rw [show 0 + 1 + 1 - k + 1 = 3 - k by omega]
  simp
theorem dual_size {T : ByteArray} : (dualX T).size ≤ 40 := by
  unfold dualX
  split
  · exact Nat.zero_le _
  · rename_i x h
    obtain ⟨_, h2, h3⟩ := bx_of h
    rw [bx_size, dual_len x h2]; exact h3
theorem dual_nil {T : ByteArray} (h : pT0 T = none) : dualX T = ⟨#[]⟩ := by simp [dualX, h]
theorem dual_ne {T : ByteArray} {x : Ex} (h : pT0 T = some x) : ((dualX T).toList == []) = false := by
  obtain ⟨_, h2, _⟩ := bx_of h
  have h1 : dualX T = bx (dual x) := by simp [dualX, h]
  have := tx_pos (dual x)
  rw [h1, ByteArray.toList_eq, bx_list]
  cases hx : tx (dual x) with
  | nil => rw [hx] at this; simp at this
  | cons a l => rfl
theorem digits_cut (r : Nat) (h : r < 6) (w : World) : (Instr.slice 9 (.string ⟨#[49, 50, 51, 52, 53, 54]⟩) (some (.int .i64 (r : Int))) (some (.int .i64 ((r : Int) + 1))) none).run Try.prog w = .ok (.string ⟨#[dg (r + 1)]⟩) w := by
  rw [run_slice_string_if w 9 _ .i64 .i64 _ _ Try.underlying9, if_pos ⟨by omega, by show (r : Int) + 1 ≤ 6; omega⟩, if_pos ⟨by omega, by omega⟩]
  have H : ∀ r : Fin 6, (⟨#[49, 50, 51, 52, 53, 54]⟩ : ByteArray).extract r.val (r.val + 1) = ⟨#[dg (r.val + 1)]⟩ := by decide
  rw [show ((r : Int)).toNat = r by omega, show ((r : Int) + 1).toNat = r + 1 by omega, H ⟨r, h⟩]
theorem dI (T : ByteArray) (w : World) (X : ByteArray) (h : dualX T = X) (hT : T.size ≤ 1048576) : Calls Try.prog 23 #[.string T] w fun e w' => e = .returned (.string X) ∧ Below w.heap.size w w' := by
  rw [← h]; exact implDualX T w hT
theorem dS (T : ByteArray) (w : World) (X : ByteArray) (h : dualX T = X) (hT : T.size ≤ 1048576) : Calls Try.prog 22 #[.string T] w fun e w' => e = .returned (.string X) ∧ Below w.heap.size w w' := by
  rw [← h]; exact specDualX T w hT

set_option maxRecDepth 100000 in
set_option maxHeartbeats 3200000 in
theorem walkDualThr (A B : Option Addr) (c d : Nat) (l m : List Int) (w : World) (ha : BL w A l) (hc : l.length ≤ c) (hmc : c ≤ maxLen) (hd : m.length ≤ d) (hmd : d ≤ maxLen) :
    Calls Try.prog 11 #[.slice A l.length c, .slice B m.length d] w fun e w' => e = .returned (.bool true) ∧ Below w.heap.size w w' := by
  have hm := Nat.le_trans hc hmc
  have hmm := Nat.le_trans hd hmd
  have hm1 := hm
  have hm2 := hmm
  unfold maxLen at hm1 hm2
  by_cases hl : l.length ≤ 1048576
  · by_cases hl2 : m.length ≤ 1048576
    · obtain ⟨ml, hml⟩ : ∃ ml, ml = m.length := ⟨_, rfl⟩
      rw [← hml] at hl2 hm2 ⊢
      clear hml hmm hd hmd
      go_enter Try.func11, Try.ntmps11
      go_wp2_with fail
      refine (drawDual_any _ _ _ _ ha hc hm hmc).mono ?_
      rintro e w1 ⟨⟨T, hT, rfl⟩, B1⟩
      clear ha hm hc hmc
      have hT2 : T.size ≤ 1048576 := by omega
      obtain ⟨X, hX⟩ : ∃ X, dualX T = X := ⟨_, rfl⟩
      have hXs : X.size ≤ 40 := by rw [← hX]; exact dual_size
      go_wp2_with fail
      refine (dI T _ _ hX hT2).mono ?_
      rintro e w2 ⟨rfl, b2⟩
      have B2 := below_step B1 b2
      clear B1 b2
      go_wp2_with fail
      refine (dS T _ _ hX hT2).mono ?_
      rintro e w3 ⟨rfl, b3⟩
      have B3 := below_step B2 b3
      clear B2 b3
      cases hp : pT0 T with
      | none =>
        have hXn := dual_nil hp
        rw [hX] at hXn
        subst hXn
        have HX := Lib.hid hX
        clear hp hX
        go_wp2_with fail
        refine (dS T _ _ HX.out hT2).mono ?_
        rintro e w4 ⟨rfl, b4⟩
        have B4 := below_step B3 b4
        clear B3 b4
        go_wp2_with fail
        go_ret
        exact ⟨rfl, B4⟩
      | some x =>
        have hne := dual_ne hp
        rw [hX] at hne
        have hne2 : X.toList.isEmpty = false := by
          cases h : X.toList with
          | nil => rw [h] at hne; cases hne
          | cons a l => rfl
        by_cases h5 : T.size + 5 ≤ 40
        · have h40 := pT0_40 hp
          obtain ⟨r, hr⟩ : ∃ r, r = ml % 6 := ⟨_, rfl⟩
          have hr6 : r < 6 := by rw [hr]; exact Nat.mod_lt _ (by omega)
          have e1 : (ml : Int).tmod 6 = (r : Int) := by rw [Int.tmod_eq_emod_of_nonneg (by omega), hr]; simp
          have e2 : (ml : Int) % 6 = (r : Int) := by rw [hr]; simp
          have hcut := digits_cut r hr6
          have P1 := Lib.hid (pairD (k := 1) (m := r + 1) hp (by omega) (by omega) (by omega) (by omega) h5)
          have P2 := Lib.hid (pairD (k := 2) (m := r + 1) hp (by omega) (by omega) (by omega) (by omega) h5)
          have S1 := Lib.hid (show (⟨#[49, 40]⟩ ++ T ++ ⟨#[44]⟩ ++ ⟨#[dg (r + 1)]⟩ ++ ⟨#[41]⟩ : ByteArray).size ≤ 1048576 by simp only [ByteArray.size_append]; show 2 + T.size + 1 + 1 + 1 ≤ _; omega)
          have S2 := Lib.hid (show (⟨#[50, 40]⟩ ++ T ++ ⟨#[44]⟩ ++ ⟨#[dg (r + 1)]⟩ ++ ⟨#[41]⟩ : ByteArray).size ≤ 1048576 by simp only [ByteArray.size_append]; show 2 + T.size + 1 + 1 + 1 ≤ _; omega)
          rw [hX] at P1 P2
          have d1 : dg 1 = 49 := by decide
          have d2 : dg 2 = 50 := by decide
          rw [show 3 - 1 = 2 from rfl, d1, d2] at P1
          rw [show 3 - 2 = 1 from rfl, d1, d2] at P2
          clear hp hr hX d1 d2
          generalize hM : (⟨#[dg (r + 1)]⟩ : ByteArray) = M at *
          have hMs : M.size = 1 := by rw [← hM]; rfl
          clear hM
          go_wp2_with fail
          refine (dI _ _ _ P1.out S1.out).mono ?_
          rintro e w4 ⟨rfl, b4⟩
          have B4 := below_step B3 b4
          clear B3 b4
          go_wp2_with fail
          refine (dI _ _ _ P2.out S2.out).mono ?_
          rintro e w5 ⟨rfl, b5⟩
          have B5 := below_step B4 b5
          clear B4 b5
          go_wp2_with fail
          go_ret
          exact ⟨rfl, B5⟩
        · have HX := Lib.hid hX
          clear hp hX
          go_wp2_with fail
          refine (dS T _ _ HX.out hT2).mono ?_
          rintro e w4 ⟨rfl, b4⟩
          have B4 := below_step B3 b4
          clear B3 b4
          go_wp2_with fail
          go_ret
          exact ⟨rfl, B4⟩
    · go_enter Try.func11, Try.ntmps11
      go_wp2_with fail
      go_ret
      exact ⟨rfl, Below.refl _ _⟩
  · go_enter Try.func11, Try.ntmps11
    go_wp2_with fail
    go_ret
    exact ⟨rfl, Below.refl _ _⟩
end Go.Proofs.Ytdfhglobfehpiaa
