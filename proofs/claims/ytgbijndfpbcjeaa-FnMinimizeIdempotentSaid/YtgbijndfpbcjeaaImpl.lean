/- The program's set functions by their contracts. -/
import Derived.Test.YtgbijndfpbcjeaaBits
namespace Go.Proofs.Ytgbijndfpbcjeaa
open Go.RowKit

set_option maxRecDepth 100000 in
set_option maxHeartbeats 800000 in
theorem bitsOfBoth_yes (A B : Option Addr) (c d : Nat) (a b : List Int) (w : World) (ha : IL w A a) (hb : IL w B b) (hva : vld a = true) (hvb : vld b = true) :
    Calls Try.prog 75 #[.slice A a.length c, .slice B b.length d] w fun e w' => e = .returned (.tuple #[.int .u8 (msk a), .int .u8 (msk b), .bool true]) ∧ w = w' := by
  have HA := Lib.hid hva
  have HB := Lib.hid hvb
  clear hva hvb
  go_enter Try.func75, Try.ntmps75
  go_wp2_with fail
  refine (bitsOf_yes _ _ _ _ ha HA.out).mono ?_
  rintro e w' ⟨rfl, rfl⟩
  go_wp2_with fail
  refine (bitsOf_yes _ _ _ _ hb HB.out).mono ?_
  rintro e w' ⟨rfl, rfl⟩
  go_wp2
  go_ret3
  exact ⟨rfl, rfl⟩
set_option maxRecDepth 100000 in
set_option maxHeartbeats 800000 in
theorem bitsOfBoth_no (A B : Option Addr) (c d : Nat) (a b : List Int) (w : World) (ha : IL w A a) (hb : IL w B b) (hla : a.length ≤ 1048576) (hlb : b.length ≤ 1048576) (hv : ¬ (vld a = true ∧ vld b = true)) :
    Calls Try.prog 75 #[.slice A a.length c, .slice B b.length d] w fun e w' => e = .returned (.tuple #[.int .u8 0, .int .u8 0, .bool false]) ∧ w = w' := by
  cases hva : vld a
  · have HA := Lib.hid hva
    cases hvb : vld b
    · have HB := Lib.hid hvb
      clear hva hvb hv
      go_enter Try.func75, Try.ntmps75
      go_wp2_with fail
      refine (bitsOf_no _ _ _ _ ha HA.out hla).mono ?_
      rintro e w' ⟨rfl, rfl⟩
      go_wp2_with fail
      refine (bitsOf_no _ _ _ _ hb HB.out hlb).mono ?_
      rintro e w' ⟨rfl, rfl⟩
      go_wp2
      go_ret3
      exact ⟨rfl, rfl⟩
    · have HB := Lib.hid hvb
      clear hva hvb hv
      go_enter Try.func75, Try.ntmps75
      go_wp2_with fail
      refine (bitsOf_no _ _ _ _ ha HA.out hla).mono ?_
      rintro e w' ⟨rfl, rfl⟩
      go_wp2_with fail
      refine (bitsOf_yes _ _ _ _ hb HB.out).mono ?_
      rintro e w' ⟨rfl, rfl⟩
      go_wp2
      go_ret3
      exact ⟨rfl, rfl⟩
  · have HA := Lib.hid hva
    cases hvb : vld b
    · have HB := Lib.hid hvb
      clear hva hvb hv
      go_enter Try.func75, Try.ntmps75
      go_wp2_with fail
      refine (bitsOf_yes _ _ _ _ ha HA.out).mono ?_
      rintro e w' ⟨rfl, rfl⟩
      go_wp2_with fail
      refine (bitsOf_no _ _ _ _ hb HB.out hlb).mono ?_
      rintro e w' ⟨rfl, rfl⟩
      go_wp2
      go_ret3
      exact ⟨rfl, rfl⟩
    · exact absurd ⟨hva, hvb⟩ hv

theorem or_two {s t : Nat} (hs : s < 64) (ht : t < 64) : bits .or .u8 (s : Int) (t : Int) = (((s ||| t) : Nat) : Int) ∧ (s ||| t) < 64 := by
  have H : ∀ s t : Fin 64, bits .or .u8 (s.val : Int) (t.val : Int) = (((s.val ||| t.val) : Nat) : Int) ∧ (s.val ||| t.val) < 64 := by decide +kernel
  exact H ⟨s, hs⟩ ⟨t, ht⟩

theorem and_two {s t : Nat} (hs : s < 64) (ht : t < 64) : bits .and .u8 (s : Int) (t : Int) = (((s &&& t) : Nat) : Int) ∧ (s &&& t) < 64 := by
  have H : ∀ s t : Fin 64, bits .and .u8 (s.val : Int) (t.val : Int) = (((s.val &&& t.val) : Nat) : Int) ∧ (s.val &&& t.val) < 64 := by decide +kernel
  exact H ⟨s, hs⟩ ⟨t, ht⟩

theorem andNot_two {s t : Nat} (hs : s < 64) (ht : t < 64) : bits .andNot .u8 (s : Int) (t : Int) = ((andNot s t : Nat) : Int) ∧ andNot s t < 64 := by
  have H : ∀ s t : Fin 64, bits .andNot .u8 (s.val : Int) (t.val : Int) = ((andNot s.val t.val : Nat) : Int) ∧ andNot s.val t.val < 64 := by decide +kernel
  exact H ⟨s, hs⟩ ⟨t, ht⟩

set_option maxRecDepth 100000 in
set_option maxHeartbeats 400000 in
theorem intersect_bits (s t : Nat) (w : World) (hs : s < 64) (ht : t < 64) :
    Calls Try.prog 85 #[.int .u8 s, .int .u8 t] w fun e w' => e = .returned (.int .u8 (s &&& t : Nat)) ∧ w = w' := by
  have HB := Lib.hid (and_two hs ht).1
  go_enter Try.func85, Try.ntmps85
  go_wp2
  go_ret
  exact ⟨ret_int HB.out, rfl⟩

set_option maxRecDepth 100000 in
set_option maxHeartbeats 400000 in
theorem minus_bits (s t : Nat) (w : World) (hs : s < 64) (ht : t < 64) :
    Calls Try.prog 76 #[.int .u8 s, .int .u8 t] w fun e w' => e = .returned (.int .u8 (andNot s t : Nat)) ∧ w = w' := by
  have HB := Lib.hid (andNot_two hs ht).1
  go_enter Try.func76, Try.ntmps76
  go_wp2
  go_ret
  exact ⟨ret_int HB.out, rfl⟩


set_option maxRecDepth 100000 in
set_option maxHeartbeats 800000 in
theorem implInter_any (A B : Option Addr) (c d : Nat) (a b : List Int) (w : World) (ha : IL w A a) (hb : IL w B b) (hla : a.length ≤ 1048576) (hlb : b.length ≤ 1048576) :
    Calls Try.prog 35 #[.slice A a.length c, .slice B b.length d] w (New w (both inter a b)) := by
  by_cases hv : vld a = true ∧ vld b = true
  · obtain ⟨hva, hvb⟩ := hv
    rw [both_t hva hvb, ← inter_msk hva hvb]
    have h1 := msk_lt hva
    have h2 := msk_lt hvb
    have h3 := (and_two h1 h2).2
    have HA := Lib.hid hva
    have HB := Lib.hid hvb
    clear hva hvb
    go_enter Try.func35, Try.ntmps35
    go_wp2_with fail
    refine (bitsOfBoth_yes _ _ _ _ _ _ _ ha hb HA.out HB.out).mono ?_
    rintro e w' ⟨rfl, rfl⟩
    go_wp2_with fail
    refine (intersect_bits _ _ _ h1 h2).mono ?_
    rintro e w' ⟨rfl, rfl⟩
    go_wp2_with fail
    refine (members_any _ _ h3).mono ?_
    rintro e w1 ⟨A', c', rfl, ho, hbb⟩
    have HN := Lib.hid (New.mk ho hbb)
    clear ho hbb
    go_wp2
    go_ret
    exact HN.out
  · rw [show both inter a b = [] by unfold both; rw [if_neg hv]]
    go_enter Try.func35, Try.ntmps35
    go_wp2_with fail
    refine (bitsOfBoth_no _ _ _ _ _ _ _ ha hb hla hlb hv).mono ?_
    rintro e w' ⟨rfl, rfl⟩
    go_wp2
    go_ret
    exact New.nil (Below.refl _ _)

set_option maxRecDepth 100000 in
set_option maxHeartbeats 800000 in
theorem implMinus_any (A B : Option Addr) (c d : Nat) (a b : List Int) (w : World) (ha : IL w A a) (hb : IL w B b) (hla : a.length ≤ 1048576) (hlb : b.length ≤ 1048576) :
    Calls Try.prog 30 #[.slice A a.length c, .slice B b.length d] w (New w (both minus a b)) := by
  by_cases hv : vld a = true ∧ vld b = true
  · obtain ⟨hva, hvb⟩ := hv
    rw [both_t hva hvb, ← minus_msk hva hvb]
    have h1 := msk_lt hva
    have h2 := msk_lt hvb
    have h3 := (andNot_two h1 h2).2
    have HA := Lib.hid hva
    have HB := Lib.hid hvb
    clear hva hvb
    go_enter Try.func30, Try.ntmps30
    go_wp2_with fail
    refine (bitsOfBoth_yes _ _ _ _ _ _ _ ha hb HA.out HB.out).mono ?_
    rintro e w' ⟨rfl, rfl⟩
    go_wp2_with fail
    refine (minus_bits _ _ _ h1 h2).mono ?_
    rintro e w' ⟨rfl, rfl⟩
    go_wp2_with fail
    refine (members_any _ _ h3).mono ?_
    rintro e w1 ⟨A', c', rfl, ho, hbb⟩
    have HN := Lib.hid (New.mk ho hbb)
    clear ho hbb
    go_wp2
    go_ret
    exact HN.out
  · rw [show both minus a b = [] by unfold both; rw [if_neg hv]]
    go_enter Try.func30, Try.ntmps30
    go_wp2_with fail
    refine (bitsOfBoth_no _ _ _ _ _ _ _ ha hb hla hlb hv).mono ?_
    rintro e w' ⟨rfl, rfl⟩
    go_wp2
    go_ret
    exact New.nil (Below.refl _ _)

set_option maxRecDepth 100000 in
set_option maxHeartbeats 400000 in
theorem subsetOf_bits (s t : Nat) (w : World) (hs : s < 64) (ht : t < 64) :
    Calls Try.prog 100 #[.int .u8 s, .int .u8 t] w fun e w' => e = .returned (.bool (andNot s t == 0)) ∧ w = w' := by
  have HE := Lib.hid (show (((andNot s t : Nat) : Int) == 0) = (andNot s t == 0) by rw [Bool.eq_iff_iff]; simp)
  go_enter Try.func100, Try.ntmps100
  go_wp2_with fail
  refine (minus_bits _ _ _ hs ht).mono ?_
  rintro e w' ⟨rfl, rfl⟩
  go_wp2
  go_ret
  exact ⟨ret_bool HE.out, rfl⟩
end Go.Proofs.Ytgbijndfpbcjeaa
