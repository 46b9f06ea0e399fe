/- Laws on satisfaction: monotone, local, empty. -/
import Derived.Test.YtlmlplbpebfkbaaLawX
import Derived.Test.YtlmlplbpebfkbaaLaw1
import Derived.Test.YtlmlplbpebfkbaaSem4
import Derived.Test.YtlmlplbpebfkbaaOfMask
namespace Go.Proofs.Ytlmlplbpebfkbaa
open Go.RowKit

set_option maxRecDepth 100000 in
set_option maxHeartbeats 800000 in
theorem allMembers_any (w : World) : Calls Try.prog 16 #[] w (New w (mem 63)) := by
  go_enter Try.func16, Try.ntmps16
  go_wp2_with fail
  refine (implOfMask_any 63 _).mono ?_
  rintro e w1 ⟨A, c, rfl, o, b⟩
  rw [show memR 63 = mem 63 from rfl] at o ⊢
  have HN := Lib.hid (show New w (mem 63) (.returned (.slice A (mem 63).length c)) w1 from ⟨A, c, rfl, o, b⟩)
  clear o b
  generalize mem 63 = l at *
  go_wp2_with fail
  go_ret
  exact HN.out
theorem sat_of {T : ByteArray} {l : List Int} (h : satX T l = true) : ∃ x, pT0 T = some x ∧ wf x ∧ vld l = true ∧ sat (msk l) x = true := by
  unfold satX at h
  split at h
  · cases h
  · rename_i x hp
    simp only [Bool.and_eq_true] at h
    exact ⟨x, hp, (pT0_tx hp).2, h.1, h.2⟩
theorem sat_un {T : ByteArray} {l m : List Int} (h : satX T l = true) (hm : vld m = true) : satX T (both union l m) = true := by
  obtain ⟨x, hp, hw, hv, hs⟩ := sat_of h
  rw [both_t hv hm]
  simp only [satX, hp, vld_un, Bool.true_and]
  rw [msk_un hv hm]
  exact sat_mono (fun i hi => by rw [Nat.testBit_or, hi, Bool.true_or]) x hs
theorem sat_full {T : ByteArray} {l : List Int} (h : satX T l = true) : satX T (mem 63) = true := by
  obtain ⟨x, hp, hw, hv, hs⟩ := sat_of h
  simp only [satX, hp, vld_mem (show 63 < 64 by omega), Bool.true_and]
  rw [msk_mem (by omega)]
  exact sat_all x hw
theorem sat_loc {T : ByteArray} {l : List Int} (hv : vld l = true) : satX T (both inter l (memX T)) = satX T l := by
  unfold satX memX
  cases hp : pT0 T with
  | none => rfl
  | some x =>
    have hw := (pT0_tx hp).2
    have hlt := ms_lt x hw
    simp only
    rw [both_t hv (vld_mem hlt), vld_in hv, hv, msk_in hv (vld_mem hlt), msk_mem hlt, sat_local hw rfl]

set_option maxRecDepth 100000 in
set_option maxHeartbeats 3200000 in
theorem walkMonotone (A B : Option Addr) (c d : Nat) (l m : List Int) (w : World) (ha : BL w A l) (hc : l.length ≤ c) (hmc : c ≤ maxLen) (hd : m.length ≤ d) (hmd : d ≤ maxLen) :
    Calls Try.prog 3 #[.slice A l.length c, .slice B m.length d] w fun e w' => e = .returned (.bool true) ∧ Below w.heap.size w w' := by
  have hm := Nat.le_trans hc hmc
  have hmm := Nat.le_trans hd hmd
  have hm1 := hm
  have hm2 := hmm
  unfold maxLen at hm1 hm2
  by_cases hl : l.length ≤ 1048576
  · by_cases hl2 : m.length ≤ 1048576
    · obtain ⟨ml, hml⟩ : ∃ ml, ml = m.length := ⟨_, rfl⟩
      rw [← hml] at hl2 hm2 ⊢
      clear hml hmm hd hmd
      go_enter Try.func3, Try.ntmps3
      go_wp2_with fail
      refine (drawSat_any _ _ _ _ ha hc hm hmc).mono ?_
      rintro e w1 ⟨⟨T, s, AS, cS, hT, hs, rfl, iS⟩, B1⟩
      clear ha hm hc hmc
      have hT2 : T.size ≤ 1048576 := by omega
      have hs2 : s.length ≤ 1048576 := by omega
      cases hR : satX T s with
      | false =>
        go_wp2_with fail
        refine (sI T _ _ _ _ _ hR hT2 iS hs2).mono ?_
        rintro e w2 ⟨rfl, b2⟩
        have B2 := below_step B1 b2
        have iS := iS.below b2
        clear B1 b2
        go_wp2_with fail
        refine (sS T _ _ _ _ _ hR hT2 iS hs2).mono ?_
        rintro e w3 ⟨rfl, b3⟩
        have B3 := below_step B2 b3
        have iS := iS.below b3
        clear B2 b3
        go_wp2_with fail
        refine (sS T _ _ _ _ _ hR hT2 iS hs2).mono ?_
        rintro e w4 ⟨rfl, b4⟩
        have B4 := below_step B3 b4
        clear B3 b4
        go_wp2_with fail
        go_ret
        exact ⟨rfl, B4⟩
      | true =>
        have hn64 : nmask ml < 64 := nmask_lt ml
        have HU := Lib.hid (sat_un hR (vld_mem hn64))
        have HF := Lib.hid (sat_full hR)
        have hml := mem_len (nmask ml)
        have hul : (both union s (mem (nmask ml))).length ≤ 1048576 := bigU _ _
        have h63 := mem_len 63
        go_wp2_with fail
        refine (sI T _ _ _ _ _ hR hT2 iS hs2).mono ?_
        rintro e w2 ⟨rfl, b2⟩
        have B2 := below_step B1 b2
        have iS := iS.below b2
        clear B1 b2
        go_wp2_with fail
        refine (sS T _ _ _ _ _ hR hT2 iS hs2).mono ?_
        rintro e w3 ⟨rfl, b3⟩
        have B3 := below_step B2 b3
        have iS := iS.below b3
        clear B2 b3 hR
        go_wp2_with fail
        refine (setOf_any ml _ hl2).mono ?_
        rintro e w4 ⟨A4, c4, rfl, o4, b4⟩
        have B4 := below_step B3 b4
        have iS := iS.below b4
        have i4 := (IL.of_own o4).1
        clear B3 b4 o4
        go_wp2_with fail
        refine (implUnion_any _ _ _ _ _ _ _ iS i4 hs2 (by omega)).mono ?_
        rintro e w5 ⟨A5, c5, rfl, o5, b5⟩
        have B5 := below_step B4 b5
        have i5 := (IL.of_own o5).1
        clear B4 b5 o5 i4 iS
        go_wp2_with fail
        refine (sI T _ _ _ _ _ HU.out hT2 i5 hul).mono ?_
        rintro e w6 ⟨rfl, b6⟩
        have B6 := below_step B5 b6
        clear B5 b6 i5
        go_wp2_with fail
        refine (allMembers_any _).mono ?_
        rintro e w7 ⟨A7, c7, rfl, o7, b7⟩
        have B7 := below_step B6 b7
        have i7 := (IL.of_own o7).1
        clear B6 b7 o7
        go_wp2_with fail
        refine (sI T _ _ _ _ _ HF.out hT2 i7 (by omega)).mono ?_
        rintro e w8 ⟨rfl, b8⟩
        have B8 := below_step B7 b8
        clear B7 b8 i7
        go_wp2_with fail
        go_ret
        exact ⟨rfl, B8⟩
    · go_enter Try.func3, Try.ntmps3
      go_wp2_with fail
      go_ret
      exact ⟨rfl, Below.refl _ _⟩
  · go_enter Try.func3, Try.ntmps3
    go_wp2_with fail
    go_ret
    exact ⟨rfl, Below.refl _ _⟩

set_option maxRecDepth 100000 in
set_option maxHeartbeats 3200000 in
theorem walkLocal (A : Option Addr) (c : Nat) (l : List Int) (w : World) (ha : BL w A l) (hc : l.length ≤ c) (hm : l.length ≤ maxLen) (hmc : c ≤ maxLen) :
    Calls Try.prog 4 #[.slice A l.length c] w fun e w' => e = .returned (.bool true) ∧ Below w.heap.size w w' := by
  have hm' := hm
  unfold maxLen at hm'
  by_cases hl : l.length ≤ 1048576
  · go_enter Try.func4, Try.ntmps4
    go_wp2_with fail
    refine (drawSat_any _ _ _ _ ha hc hm hmc).mono ?_
    rintro e w1 ⟨⟨T, s, AS, cS, hT, hs, rfl, iS⟩, B1⟩
    clear ha hm
    have hT2 : T.size ≤ 1048576 := by omega
    have hs2 : s.length ≤ 1048576 := by omega
    obtain ⟨R, hR⟩ : ∃ R, satX T s = R := ⟨_, rfl⟩
    have hRR : (R != R) = false := by simp
    have hRE : (R == R) = true := by simp
    go_wp2_with fail
    refine (sI T _ _ _ _ _ hR hT2 iS hs2).mono ?_
    rintro e w2 ⟨rfl, b2⟩
    have B2 := below_step B1 b2
    have iS := iS.below b2
    clear B1 b2
    go_wp2_with fail
    refine (sS T _ _ _ _ _ hR hT2 iS hs2).mono ?_
    rintro e w3 ⟨rfl, b3⟩
    have B3 := below_step B2 b3
    have iS := iS.below b3
    clear B2 b3
    cases hv : vld s with
    | false =>
      go_wp2_with fail
      refine (specValid_f _ _ _ _ iS hs2 hv).mono ?_
      rintro e w4 ⟨rfl, b4⟩
      have B4 := below_step B3 b4
      have iS := iS.below b4
      clear B3 b4 hv
      go_wp2_with fail
      refine (sS T _ _ _ _ _ hR hT2 iS hs2).mono ?_
      rintro e w5 ⟨rfl, b5⟩
      have B5 := below_step B4 b5
      clear B4 b5 hR
      go_wp2_with fail
      go_ret
      exact ⟨rfl, B5⟩
    | true =>
      have HL := Lib.hid ((sat_loc (T := T) hv).trans hR)
      have hil : (both inter s (memX T)).length ≤ 1048576 := bigI _ hs2
      have hml := memX_len T
      go_wp2_with fail
      refine (specValid_t _ _ _ _ iS hs2 hv).mono ?_
      rintro e w4 ⟨rfl, b4⟩
      have B4 := below_step B3 b4
      have iS := iS.below b4
      clear B3 b4 hv hR
      go_wp2_with fail
      refine (implMembersX T _ hT2).mono ?_
      rintro e w5 ⟨A5, c5, rfl, o5, b5⟩
      have B5 := below_step B4 b5
      have iS := iS.below b5
      have i5 := (IL.of_own o5).1
      clear B4 b5 o5
      go_wp2_with fail
      refine (implInter_any _ _ _ _ _ _ _ iS i5 hs2 (by omega)).mono ?_
      rintro e w6 ⟨A6, c6, rfl, o6, b6⟩
      have B6 := below_step B5 b6
      have i6 := (IL.of_own o6).1
      clear B5 b6 o6 i5 iS
      go_wp2_with fail
      refine (sI T _ _ _ _ _ HL.out hT2 i6 hil).mono ?_
      rintro e w7 ⟨rfl, b7⟩
      have B7 := below_step B6 b7
      clear B6 b7 i6
      go_wp2_with fail
      go_ret
      exact ⟨rfl, B7⟩
  · go_enter Try.func4, Try.ntmps4
    go_wp2_with fail
    go_ret
    exact ⟨rfl, Below.refl _ _⟩
end Go.Proofs.Ytlmlplbpebfkbaa
