/- Laws on duals and members of drawn expressions. -/
import Derived.Test.YtlmlplbpebfkbaaLaw2
import Derived.Test.YtlmlplbpebfkbaaWDualL
namespace Go.Proofs.Ytlmlplbpebfkbaa
open Go.RowKit

theorem pT0_bx {x : Ex} (hw : wf x) (hl : (tx x).length ≤ 40) : pT0 (bx x) = some x := by unfold pT0; rw [bx_list]; exact pX_tx hw hl
/-- The dual of a text is the text of the dual. -/
theorem dual_of {T : ByteArray} {x : Ex} (h : pT0 T = some x) : T = bx x ∧ wf x ∧ dualX T = bx (dual x) ∧ pT0 (dualX T) = some (dual x) := by
  obtain ⟨h1, h2, h3⟩ := bx_of h
  have e : dualX T = bx (dual x) := by simp [dualX, h]
  refine ⟨h1, h2, e, ?_⟩
  rw [e]
  exact pT0_bx (dual_wf x h2) (by rw [dual_len x h2]; exact h3)
theorem dualX_some {T : ByteArray} {x : Ex} (h : pT0 T = some x) : dualX T = bx (dual x) := by simp [dualX, h]
theorem inv_all {T : ByteArray} {x : Ex} (h : pT0 T = some x) : dualX (dualX T) = T ∧ memX (dualX T) = memX T ∧ depR (dualX T) = depR T ∧ (dualX T).size = T.size := by
  obtain ⟨h1, h2, h3, h4⟩ := dual_of h
  refine ⟨?_, ?_, ?_, ?_⟩
  · rw [dualX_some h4, dual_dual x h2, ← h1]
  · simp only [memX, h4, h, ms_dual]
  · simp only [depR, h4, h, dep_dual]
  · rw [h3, bx_size, dual_len x h2, ← bx_size, ← h1]
theorem emp_all {T : ByteArray} {x : Ex} (h : pT0 T = some x) : satX T [] = false ∧ satX T (memX T) = true ∧ vld (memX T) = true ∧ 0 < (memX T).length := by
  have hw := (pT0_tx h).2
  have hlt := ms_lt x hw
  have hm : memX T = mem (ms x) := by simp [memX, h]
  refine ⟨?_, ?_, ?_, ?_⟩
  · simp only [satX, h]
    rw [show msk [] = 0 from rfl, sat_zero x hw, Bool.and_false]
  · simp only [satX, h, hm, vld_mem hlt, Bool.true_and]
    rw [msk_mem hlt]; exact sat_own hw
  · rw [hm]; exact vld_mem hlt
  · rw [hm]; exact List.length_pos_iff.2 (ms_pos hw)
theorem and_comp {a b : Nat} (ha : a < 64) (hb : b < 64) (h : a &&& b = 0) : a &&& andNot 63 b = a := by
  have H : ∀ a b : Fin 64, a.val &&& b.val = 0 → a.val &&& andNot 63 b.val = a.val := by decide +kernel
  exact H ⟨a, ha⟩ ⟨b, hb⟩ h
theorem meets {T : ByteArray} {s t : List Int} (hs : satX T s = true) (ht : vld t = true) (hd : satX (dualX T) t = true) : 0 < (both inter s t).length := by
  obtain ⟨x, hp, hw, hv, hx⟩ := sat_of hs
  obtain ⟨_, _, _, h4⟩ := dual_of hp
  simp only [satX, h4, ht, Bool.true_and] at hd
  rw [sat_dual (msk_lt ht) x hw] at hd
  rw [both_t hv ht]
  rcases Nat.eq_zero_or_pos (inter s t).length with h0 | h0
  · exfalso
    have hn : inter s t = [] := List.eq_nil_of_length_eq_zero h0
    have hm : msk s &&& msk t = 0 := by rw [← msk_in hv ht, hn]; rfl
    have hc := and_comp (msk_lt hv) (msk_lt ht) hm
    have := sat_mono (s := msk s) (t := andNot 63 (msk t)) (fun i hi => by rw [← hc, Nat.testBit_and, Bool.and_eq_true] at hi; exact hi.2) x hx
    rw [this] at hd
    cases hd
  · exact h0
theorem mX (T : ByteArray) (w : World) (l : List Int) (h : memX T = l) (hT : T.size ≤ 1048576) : Calls Try.prog 19 #[.string T] w (New w l) := by
  rw [← h]; exact implMembersX T w hT
theorem pX' (T : ByteArray) (w : World) (k : Int) (h : depR T = k) (hT : T.size ≤ 1048576) : Calls Try.prog 30 #[.string T] w fun e w' => e = .returned (.int .i64 k) ∧ Below w.heap.size w w' := by
  rw [← h]; exact implDepthX T w hT

set_option maxRecDepth 100000 in
set_option maxHeartbeats 3200000 in
theorem walkInvolution (A : Option Addr) (c : Nat) (l : List Int) (w : World) (ha : BL w A l) (hc : l.length ≤ c) (hm : l.length ≤ maxLen) (hmc : c ≤ maxLen) :
    Calls Try.prog 7 #[.slice A l.length c] w fun e w' => e = .returned (.bool true) ∧ Below w.heap.size w w' := by
  have hm' := hm
  unfold maxLen at hm'
  by_cases hl : l.length ≤ 1048576
  · go_enter Try.func7, Try.ntmps7
    go_wp2_with fail
    refine (drawDual_any _ _ _ _ ha hc hm hmc).mono ?_
    rintro e w1 ⟨⟨T, hT, rfl⟩, B1⟩
    clear ha hm
    have hT2 : T.size ≤ 1048576 := by omega
    obtain ⟨X, hX⟩ : ∃ X, dualX T = X := ⟨_, rfl⟩
    have hXs : X.size ≤ 40 := by rw [← hX]; exact dual_size
    have hXs2 : X.size ≤ 1048576 := by omega
    go_wp2_with fail
    refine (dI T _ _ hX hT2).mono ?_
    rintro e w2 ⟨rfl, b2⟩
    have B2 := below_step B1 b2
    clear B1 b2
    go_wp2_with fail
    refine (dS T _ _ hX hT2).mono ?_
    rintro e w3 ⟨rfl, b3⟩
    have B3 := below_step B2 b3
    clear B2 b3
    cases hp : pT0 T with
    | none =>
      have hXn := dual_nil hp
      rw [hX] at hXn
      subst hXn
      have HX := Lib.hid hX
      clear hp hX
      go_wp2_with fail
      refine (dS T _ _ HX.out hT2).mono ?_
      rintro e w4 ⟨rfl, b4⟩
      have B4 := below_step B3 b4
      clear B3 b4
      go_wp2_with fail
      go_ret
      exact ⟨rfl, B4⟩
    | some x =>
      have hne := dual_ne hp
      rw [hX] at hne
      have hne2 : X.toList.isEmpty = false := by
        cases h : X.toList with
        | nil => rw [h] at hne; cases hne
        | cons a l => rfl
      obtain ⟨v1, v2, v3, v4⟩ := inv_all hp
      rw [hX] at v1 v2 v3 v4
      obtain ⟨M, hM⟩ : ∃ M, memX T = M := ⟨_, rfl⟩
      obtain ⟨D, hD⟩ : ∃ D, depR T = D := ⟨_, rfl⟩
      rw [hM] at v2
      rw [hD] at v3
      have hMl : M.length ≤ 1048576 := by rw [← hM]; have := memX_len T; omega
      have H1 := Lib.hid v1
      have H2 := Lib.hid v2
      have H3 := Lib.hid v3
      have H4 := Lib.hid hM
      have H5 := Lib.hid hD
      clear hp hX v1 v2 v3 hM hD
      go_wp2_with fail
      refine (dI X _ _ H1.out hXs2).mono ?_
      rintro e w4 ⟨rfl, b4⟩
      have B4 := below_step B3 b4
      clear B3 b4
      go_wp2_with fail
      refine (mX X _ _ H2.out hXs2).mono ?_
      rintro e w5 ⟨A5, c5, rfl, o5, b5⟩
      have B5 := below_step B4 b5
      have i5 := (IL.of_own o5).1
      clear B4 b5 o5
      go_wp2_with fail
      refine (mX T _ _ H4.out hT2).mono ?_
      rintro e w6 ⟨A6, c6, rfl, o6, b6⟩
      have B6 := below_step B5 b6
      have i5 := i5.below b6
      have i6 := (IL.of_own o6).1
      clear B5 b6 o6
      go_wp2_with fail
      refine (sameInts_yes _ _ _ _ _ _ i5 i6 hMl).mono ?_
      rintro e w7 ⟨rfl, b7⟩
      have B7 := below_step B6 b7
      clear B6 b7 i5 i6
      go_wp2_with fail
      refine (pX' X _ _ H3.out hXs2).mono ?_
      rintro e w8 ⟨rfl, b8⟩
      have B8 := below_step B7 b8
      clear B7 b8
      go_wp2_with fail
      refine (pX' T _ _ H5.out hT2).mono ?_
      rintro e w9 ⟨rfl, b9⟩
      have B9 := below_step B8 b9
      clear B8 b9
      go_wp2_with fail
      go_ret
      exact ⟨rfl, B9⟩
  · go_enter Try.func7, Try.ntmps7
    go_wp2_with fail
    go_ret
    exact ⟨rfl, Below.refl _ _⟩

set_option maxRecDepth 100000 in
set_option maxHeartbeats 3200000 in
theorem walkEmpty (A : Option Addr) (c : Nat) (l : List Int) (w : World) (ha : BL w A l) (hc : l.length ≤ c) (hm : l.length ≤ maxLen) (hmc : c ≤ maxLen) :
    Calls Try.prog 5 #[.slice A l.length c] w fun e w' => e = .returned (.bool true) ∧ Below w.heap.size w w' := by
  have hm' := hm
  unfold maxLen at hm'
  by_cases hl : l.length ≤ 1048576
  · go_enter Try.func5, Try.ntmps5
    go_wp2_with fail
    refine (drawMembers_any _ _ _ _ ha hc hm hmc).mono ?_
    rintro e w1 ⟨⟨T, hT, rfl⟩, B1⟩
    clear ha hm
    have hT2 : T.size ≤ 1048576 := by omega
    have hMl : (memX T).length ≤ 1048576 := by have := memX_len T; omega
    go_wp2_with fail
    refine (implMembersX T _ hT2).mono ?_
    rintro e w2 ⟨A2, c2, rfl, o2, b2⟩
    have B2 := below_step B1 b2
    have i2 := (IL.of_own o2).1
    clear B1 b2 o2
    go_wp2_with fail
    refine (specMembersX T _ hT2).mono ?_
    rintro e w3 ⟨A3, c3, rfl, o3, b3⟩
    have B3 := below_step B2 b3
    have i2 := i2.below b3
    have i3 := (IL.of_own o3).1
    clear B2 b3 o3
    go_wp2_with fail
    refine (sameInts_yes _ _ _ _ _ _ i2 i3 hMl).mono ?_
    rintro e w4 ⟨rfl, b4⟩
    have B4 := below_step B3 b4
    have i2 := i2.below b4
    clear B3 b4 i3
    cases hp : pT0 T with
    | none =>
      have hok := ok_no hp
      clear hp
      go_wp2_with (go_at_call 23; refine (vS T _ _ hok hT2).mono ?_; rintro e w' ⟨rfl, rfl⟩)
      refine (specMembersX T _ hT2).mono ?_
      rintro e w5 ⟨A5, c5, rfl, o5, b5⟩
      have B5 := below_step B4 b5
      have i2 := i2.below b5
      have i5 := (IL.of_own o5).1
      clear B4 b5 o5
      go_wp2_with fail
      refine (sameInts_yes _ _ _ _ _ _ i2 i5 hMl).mono ?_
      rintro e w6 ⟨rfl, b6⟩
      have B6 := below_step B5 b6
      clear B5 b6 i5 i2
      go_wp2_with fail
      go_ret
      exact ⟨rfl, B6⟩
    | some x =>
      have hok := ok_yes hp
      obtain ⟨e1, e2, e3, e4⟩ := emp_all hp
      have H1 := Lib.hid e1
      have H2 := Lib.hid e2
      have H3 := Lib.hid e3
      clear hp e1 e2 e3
      generalize memX T = M at *
      go_wp2_with (go_at_call 23; refine (vS T _ _ hok hT2).mono ?_; rintro e w' ⟨rfl, rfl⟩)
      refine (sI T none 0 [] _ _ H1.out hT2 (.inl rfl) (by simp)).mono ?_
      rintro e w5 ⟨rfl, b5⟩
      have B5 := below_step B4 b5
      have i2 := i2.below b5
      clear B4 b5
      go_wp2_with fail
      refine (sI T _ _ _ _ _ H2.out hT2 i2 hMl).mono ?_
      rintro e w6 ⟨rfl, b6⟩
      have B6 := below_step B5 b6
      have i2 := i2.below b6
      clear B5 b6
      have HV := Lib.hid (implValid_any _ c2 _ _ i2 hMl)
      rw [H3.out] at HV
      go_wp2_with (go_at_call 24; refine HV.out.mono ?_; rintro e w' ⟨rfl, rfl⟩)
      go_ret
      exact ⟨rfl, B6⟩
  · go_enter Try.func5, Try.ntmps5
    go_wp2_with fail
    go_ret
    exact ⟨rfl, Below.refl _ _⟩

set_option maxRecDepth 100000 in
set_option maxHeartbeats 3200000 in
theorem walkMeets (A B : Option Addr) (c d : Nat) (l m : List Int) (w : World) (ha : BL w A l) (hc : l.length ≤ c) (hmc : c ≤ maxLen) (hd : m.length ≤ d) (hmd : d ≤ maxLen) :
    Calls Try.prog 8 #[.slice A l.length c, .slice B m.length d] w fun e w' => e = .returned (.bool true) ∧ Below w.heap.size w w' := by
  have hm := Nat.le_trans hc hmc
  have hmm := Nat.le_trans hd hmd
  have hm1 := hm
  have hm2 := hmm
  unfold maxLen at hm1 hm2
  by_cases hl : l.length ≤ 1048576
  · by_cases hl2 : m.length ≤ 1048576
    · obtain ⟨ml, hml⟩ : ∃ ml, ml = m.length := ⟨_, rfl⟩
      rw [← hml] at hl2 hm2 ⊢
      clear hml hmm hd hmd
      go_enter Try.func8, Try.ntmps8
      go_wp2_with fail
      refine (drawSat_any _ _ _ _ ha hc hm hmc).mono ?_
      rintro e w1 ⟨⟨T, s, AS, cS, hT, hs, rfl, iS⟩, B1⟩
      clear ha hm hc hmc
      have hT2 : T.size ≤ 1048576 := by omega
      have hs2 : s.length ≤ 1048576 := by omega
      cases hR : satX T s with
      | false =>
        go_wp2_with fail
        refine (sI T _ _ _ _ _ hR hT2 iS hs2).mono ?_
        rintro e w2 ⟨rfl, b2⟩
        have B2 := below_step B1 b2
        have iS := iS.below b2
        clear B1 b2
        go_wp2_with fail
        refine (sS T _ _ _ _ _ hR hT2 iS hs2).mono ?_
        rintro e w3 ⟨rfl, b3⟩
        have B3 := below_step B2 b3
        have iS := iS.below b3
        clear B2 b3
        go_wp2_with fail
        refine (sS T _ _ _ _ _ hR hT2 iS hs2).mono ?_
        rintro e w4 ⟨rfl, b4⟩
        have B4 := below_step B3 b4
        clear B3 b4
        go_wp2_with fail
        go_ret
        exact ⟨rfl, B4⟩
      | true =>
        have hn64 : nmask ml < 64 := nmask_lt ml
        have hml := mem_len (nmask ml)
        obtain ⟨t, ht⟩ : ∃ t, t = mem (nmask ml) := ⟨_, rfl⟩
        have hvt : vld t = true := by rw [ht]; exact vld_mem hn64
        have htl : t.length ≤ 1048576 := by rw [ht]; omega
        have hil : (both inter s t).length ≤ 1048576 := bigI _ hs2
        obtain ⟨X, hX⟩ : ∃ X, dualX T = X := ⟨_, rfl⟩
        have hXs2 : X.size ≤ 1048576 := by have := dual_size (T := T); rw [hX] at this; omega
        have HS := Lib.hid (setOf_any ml)
        rw [← ht] at HS
        have HX := Lib.hid hX
        have HM := Lib.hid (fun h => meets hR hvt h)
        rw [hX] at HM
        have HR := Lib.hid hR
        clear hX ht hR
        go_wp2_with fail
        refine (sI T _ _ _ _ _ HR.out hT2 iS hs2).mono ?_
        rintro e w2 ⟨rfl, b2⟩
        have B2 := below_step B1 b2
        have iS := iS.below b2
        clear B1 b2
        go_wp2_with fail
        refine (sS T _ _ _ _ _ HR.out hT2 iS hs2).mono ?_
        rintro e w3 ⟨rfl, b3⟩
        have B3 := below_step B2 b3
        have iS := iS.below b3
        clear B2 b3
        go_wp2_with fail
        refine (HS.out _ hl2).mono ?_
        rintro e w4 ⟨A4, c4, rfl, o4, b4⟩
        have B4 := below_step B3 b4
        have iS := iS.below b4
        have i4 := (IL.of_own o4).1
        clear B3 b4 o4
        go_wp2_with fail
        refine (dI T _ _ HX.out hT2).mono ?_
        rintro e w5 ⟨rfl, b5⟩
        have B5 := below_step B4 b5
        have iS := iS.below b5
        have i4 := i4.below b5
        clear B4 b5
        cases hD : satX X t with
        | false =>
          go_wp2_with fail
          refine (sI X _ _ _ _ _ hD hXs2 i4 htl).mono ?_
          rintro e w6 ⟨rfl, b6⟩
          have B6 := below_step B5 b6
          clear B5 b6 i4 iS
          go_wp2_with fail
          go_ret
          exact ⟨rfl, B6⟩
        | true =>
          have hpos := HM.out hD
          go_wp2_with fail
          refine (sI X _ _ _ _ _ hD hXs2 i4 htl).mono ?_
          rintro e w6 ⟨rfl, b6⟩
          have B6 := below_step B5 b6
          have iS := iS.below b6
          have i4 := i4.below b6
          clear B5 b6
          go_wp2_with fail
          refine (implInter_any _ _ _ _ _ _ _ iS i4 hs2 htl).mono ?_
          rintro e w7 ⟨A7, c7, rfl, o7, b7⟩
          have B7 := below_step B6 b7
          clear B6 b7 o7 i4 iS
          go_wp2_with fail
          go_ret
          exact ⟨rfl, B7⟩
    · go_enter Try.func8, Try.ntmps8
      go_wp2_with fail
      go_ret
      exact ⟨rfl, Below.refl _ _⟩
  · go_enter Try.func8, Try.ntmps8
    go_wp2_with fail
    go_ret
    exact ⟨rfl, Below.refl _ _⟩
end Go.Proofs.Ytlmlplbpebfkbaa
