/- The law that the dual is satisfied by the sets that hit every quorum. -/
import Derived.Test.YtlmlplbpebfkbaaLaw4
namespace Go.Proofs.Ytlmlplbpebfkbaa
open Go.RowKit

set_option maxRecDepth 100000 in
set_option maxHeartbeats 400000 in
theorem setOf_big (n : Nat) (N : Int) (hN : N = (n : Int)) (w : World) (hn : n ≤ 2000000) : Calls Try.prog 15 #[.int .i64 N] w (New w (mem (nmask n))) := by
  subst hN
  have e1 : (n : Int) * 37 % 64 = ((nmask n : Nat) : Int) := by unfold nmask; omega
  have e2 : Int.tmod ((n : Int) * 37) 64 = ((nmask n : Nat) : Int) := by rw [Int.tmod_eq_emod_of_nonneg (by omega)]; exact e1
  go_enter Try.func15, Try.ntmps15
  go_wp2_with fail
  refine (implOfMask_any ((nmask n : Nat) : Int) _).mono ?_
  rw [memR_nat (nmask_lt n)]
  rintro e w1 ⟨A, c, rfl, o, b⟩
  have D := Lib.hid (show New w (mem (nmask n)) (.returned (.slice A (mem (nmask n)).length c)) w1 from ⟨A, c, rfl, o, b⟩)
  clear o b e1 e2
  go_wp2
  go_ret
  exact D.out
theorem dual_sem {T : ByteArray} {x : Ex} (h : pT0 T = some x) {t : List Int} (ht : vld t = true) : satX (dualX T) t = !satX T (both minus (mem 63) t) := by
  obtain ⟨_, hw, _, h4⟩ := dual_of h
  have h63 : vld (mem 63) = true := vld_mem (by omega)
  rw [both_t h63 ht]
  simp only [satX, h4, h, ht, Bool.true_and, vld_mi h63]
  rw [sat_dual (msk_lt ht) x hw, msk_mi h63 ht, msk_mem (show 63 < 64 by omega)]

set_option maxRecDepth 100000 in
set_option maxHeartbeats 3200000 in
theorem walkSem (A B : Option Addr) (c d : Nat) (l m : List Int) (w : World) (ha : BL w A l) (hc : l.length ≤ c) (hmc : c ≤ maxLen) (hd : m.length ≤ d) (hmd : d ≤ maxLen) :
    Calls Try.prog 6 #[.slice A l.length c, .slice B m.length d] w fun e w' => e = .returned (.bool true) ∧ Below w.heap.size w w' := by
  have hm := Nat.le_trans hc hmc
  have hmm := Nat.le_trans hd hmd
  have hm1 := hm
  have hm2 := hmm
  unfold maxLen at hm1 hm2
  by_cases hl : l.length ≤ 1048576
  · by_cases hl2 : m.length ≤ 1048576
    · obtain ⟨ml, hml⟩ : ∃ ml, ml = m.length := ⟨_, rfl⟩
      rw [← hml] at hl2 hm2 ⊢
      clear hml hmm hd hmd
      go_enter Try.func6, Try.ntmps6
      go_wp2_with fail
      refine (drawDual_any _ _ _ _ ha hc hm hmc).mono ?_
      rintro e w1 ⟨⟨T, hT, rfl⟩, B1⟩
      clear ha hm hc hmc
      have hT2 : T.size ≤ 1048576 := by omega
      obtain ⟨X, hX⟩ : ∃ X, dualX T = X := ⟨_, rfl⟩
      have hXs : X.size ≤ 40 := by rw [← hX]; exact dual_size
      have hXs2 : X.size ≤ 1048576 := by omega
      go_wp2_with fail
      refine (dI T _ _ hX hT2).mono ?_
      rintro e w2 ⟨rfl, b2⟩
      have B2 := below_step B1 b2
      clear B1 b2
      go_wp2_with fail
      refine (dS T _ _ hX hT2).mono ?_
      rintro e w3 ⟨rfl, b3⟩
      have B3 := below_step B2 b3
      clear B2 b3
      cases hp : pT0 T with
      | none =>
        have hXn := dual_nil hp
        rw [hX] at hXn
        subst hXn
        have HX := Lib.hid hX
        clear hp hX
        go_wp2_with fail
        refine (dS T _ _ HX.out hT2).mono ?_
        rintro e w4 ⟨rfl, b4⟩
        have B4 := below_step B3 b4
        clear B3 b4
        go_wp2_with fail
        go_ret
        exact ⟨rfl, B4⟩
      | some x =>
        have hne := dual_ne hp
        rw [hX] at hne
        have hne2 : X.toList.isEmpty = false := by
          cases h : X.toList with
          | nil => rw [h] at hne; cases hne
          | cons a l => rfl
        have HS := Lib.hid (fun (t : List Int) (ht : vld t = true) => dual_sem hp ht)
        rw [hX] at HS
        have hok := ok_yes (show pT0 X = some (dual x) by rw [← hX]; exact (dual_of hp).2.2.2)
        have h63 := mem_len 63
        clear hp hX
        go_wp2_with fail
        go_loopw [7] (fun i wr => ∃ j : Nat, j ≤ 4 ∧ i = .int .i64 j ∧ Below w.heap.size w wr) (fun i _ => 4 - (intOf i).toNat)
        case atStart => exact ⟨0, by omega, rfl, B3⟩
        case round =>
          clear B3
          obtain ⟨j, hj, rfl, B3⟩ := hrel
          by_cases hlt : j < 4
          · obtain ⟨t, ht⟩ : ∃ t, t = mem (nmask (ml + j * 11)) := ⟨_, rfl⟩
            have hvt : vld t = true := by rw [ht]; exact vld_mem (nmask_lt _)
            have htl : t.length ≤ 1048576 := by have := mem_len (nmask (ml + j * 11)); rw [ht]; omega
            have HO := Lib.hid (fun (W : World) => setOf_big (ml + j * 11) ((ml : Int) + (j : Int) * 11) (by omega) W (by omega))
            rw [← ht] at HO
            have hbl : (both minus (mem 63) t).length ≤ 1048576 := bigN _ (by omega)
            have hD := HS.out t hvt
            obtain ⟨Q, hQ⟩ : ∃ Q, satX T (both minus (mem 63) t) = Q := ⟨_, rfl⟩
            rw [hQ] at hD
            have HD := Lib.hid hD
            have HQ := Lib.hid hQ
            have hQQ : ((!Q) == Q) = false := by cases Q <;> rfl
            clear ht hD hQ
            go_wp2_with fail
            refine (HO.out _).mono ?_
            rintro e w4 ⟨A4, c4, rfl, o4, b4⟩
            have B4 := below_step B3 b4
            have i4 := (IL.of_own o4).1
            clear B3 b4 o4 HO
            go_wp2_with fail
            refine (sI X _ _ _ _ _ HD.out hXs2 i4 htl).mono ?_
            rintro e w5 ⟨rfl, b5⟩
            have B5 := below_step B4 b5
            have i4 := i4.below b5
            clear B4 b5
            go_wp2_with fail
            refine (allMembers_any _).mono ?_
            rintro e w6 ⟨A6, c6, rfl, o6, b6⟩
            have B6 := below_step B5 b6
            have i4 := i4.below b6
            have i6 := (IL.of_own o6).1
            clear B5 b6 o6
            go_wp2_with fail
            refine (implMinus_any _ _ _ _ _ _ _ i6 i4 (by omega) htl).mono ?_
            rintro e w7 ⟨A7, c7, rfl, o7, b7⟩
            have B7 := below_step B6 b7
            have i7 := (IL.of_own o7).1
            clear B6 b7 o7 i4 i6
            go_wp2_with fail
            refine (sI T _ _ _ _ _ HQ.out hT2 i7 hbl).mono ?_
            rintro e w8 ⟨rfl, b8⟩
            have B8 := below_step B7 b8
            clear B7 b8 i7
            go_wp2_with fail
            go_roundw
            case rel => exact ⟨j + 1, by omega, by go_num, B8⟩
            case measure => simp [intOf]; omega
          · have hj4 : j = 4 := by omega
            subst hj4
            go_wp2_with fail
            refine (vI X _ _ hok hXs2).mono ?_
            rintro e w4 ⟨rfl, b4⟩
            have B4 := below_step B3 b4
            clear B3 b4
            go_wp2_with fail
            go_ret
            exact ⟨rfl, B4⟩
    · go_enter Try.func6, Try.ntmps6
      go_wp2_with fail
      go_ret
      exact ⟨rfl, Below.refl _ _⟩
  · go_enter Try.func6, Try.ntmps6
    go_wp2_with fail
    go_ret
    exact ⟨rfl, Below.refl _ _⟩
end Go.Proofs.Ytlmlplbpebfkbaa
