/- The walk of the law that a threshold counts members. -/
import Derived.Test.YtncjpejkibhdoaaDoorWThr
import Derived.Test.YtncjpejkibhdoaaDoorTop
import Derived.Test.YtncjpejkibhdoaaDoorLaw1
import Derived.Test.YtncjpejkibhdoaaDoorSem4
namespace Go.Proofs.YtncjpejkibhdoaaDoor
open Go.RowKit

theorem cnt_mems {t : List Int} (ht : vld t = true) : (l : List Int) → (∀ x ∈ l, 1 ≤ x ∧ x ≤ 6) → satL (msk t) (mems l) = (l.filter (fun x => has t x)).length
  | [], _ => by simp [mems, satL]
  | x :: l, h => by
    have h1 := h x (by simp)
    have ih := cnt_mems ht l (fun y hy => h y (by simp [hy]))
    have hb : has t x = sat (msk t) (.mem x.toNat) := by
      have := has_mem_bit (s := msk t) (m := x.toNat) (msk_lt ht) (by omega) (by omega)
      rw [mem_msk ht, show ((x.toNat : Nat) : Int) = x by omega] at this
      rw [this]; simp [sat]
    simp only [mems, List.map_cons] at ih ⊢
    rw [satL, ih, List.filter_cons, hb]
    cases sat (msk t) (.mem x.toNat) <;> simp <;> omega
theorem thr_all {k : Int} {s : List Int} (h : thrOk k s = true) : ∃ x, pT0 (thrX k s) = some x ∧ memX (thrX k s) = s ∧ depR (thrX k s) = 1 ∧
    ∀ t, vld t = true → satX (thrX k s) t = decide (k ≤ ((both inter s t).length : Int)) := by
  have h' := h
  simp only [thrOk, Bool.and_eq_true, decide_eq_true_eq] at h'
  obtain ⟨⟨hv, h1⟩, h2⟩ := h'
  obtain ⟨kn, rfl⟩ := Int.eq_ofNat_of_zero_le (show 0 ≤ k by omega)
  have hw := thr_wf (k := kn) hv (by omega) (by omega)
  have e1 : thrX (kn : Int) s = bx (.thr kn (mems s)) := by simp [thrX, h]
  have hp : pT0 (thrX (kn : Int) s) = some (.thr kn (mems s)) := by
    rw [e1]; unfold pT0; rw [bx_list]; exact pX_tx hw.1 hw.2
  have hm : msL (mems s) = msk s := all_of (P := fun l => msL (mems l) = msk l) (by decide +kernel) hv
  have hd : s = [] ∨ depL (mems s) = 1 := all_of (P := fun l => l = [] ∨ depL (mems l) = 1) (by decide +kernel) hv
  refine ⟨_, hp, ?_, ?_, ?_⟩
  · simp only [memX, hp, ms, hm]; exact mem_msk hv
  · simp only [depR, hp, dep]
    rcases hd with rfl | hd
    · simp at h2; omega
    · rw [hd]; rfl
  · intro t ht
    simp only [satX, hp, ht, Bool.true_and, sat]
    rw [cnt_mems ht s (vld_mems hv), both_t hv ht]
    unfold inter
    by_cases hq : kn ≤ (List.filter (fun x => has t x) s).length
    · rw [decide_eq_true hq, decide_eq_true (by omega)]
    · rw [decide_eq_false hq, decide_eq_false (by omega)]
theorem rI (T : ByteArray) (A : Option Addr) (c : Nat) (l : List Int) (w : World) (b : Bool) (h : satX T l = b) (hT : T.size ≤ 1048576) (ha : IL w A l) (hl : l.length ≤ 1048576) :
    Calls Tryd.prog 9 #[.string T, .slice A l.length c] w fun e w' => e = .returned (.bool b) ∧ Below w.heap.size w w' := by
  rw [← h]; exact implSatX T A c l w hT ha hl

set_option maxRecDepth 100000 in
set_option maxHeartbeats 3200000 in
theorem walkThreshold (A B : Option Addr) (c d : Nat) (l m : List Int) (w : World) (ha : BL w A l) (hc : l.length ≤ c) (hmc : c ≤ maxLen) (hd : m.length ≤ d) (hmd : d ≤ maxLen) :
    Calls Tryd.prog 3 #[.slice A l.length c, .slice B m.length d] w fun e w' => e = .returned (.bool true) ∧ Below w.heap.size w w' := by
  have hm := Nat.le_trans hc hmc
  have hmm := Nat.le_trans hd hmd
  have hm1 := hm
  have hm2 := hmm
  unfold maxLen at hm1 hm2
  by_cases hl : l.length ≤ 1048576
  · by_cases hl2 : m.length ≤ 1048576
    · obtain ⟨ml, hml⟩ : ∃ ml, ml = m.length := ⟨_, rfl⟩
      rw [← hml] at hl2 hm2 ⊢
      clear hml hmm hd hmd
      go_enter Tryd.func3, Tryd.ntmps3
      go_wp2_with fail
      refine (drawThr_any _ _ _ _ ha hc hm hmc).mono ?_
      rintro e w1 ⟨⟨k, s, AS, cS, hk0, hk6, hs, rfl, iS⟩, B1⟩
      clear ha hm hc hmc
      have hs2 : s.length ≤ 1048576 := by omega
      obtain ⟨X, hX⟩ : ∃ X, thrX k s = X := ⟨_, rfl⟩
      have hXs : X.size ≤ 1048576 := by have := thrX_size k s; rw [hX] at this; omega
      cases hb : thrOk k s with
      | false =>
        have HX := Lib.hid (And.intro hX hb)
        have hcs : vld s = false ∨ (vld s = true ∧ k < 1) ∨ (vld s = true ∧ 1 ≤ k ∧ (s.length : Int) < k) := by
          cases hv : vld s with
          | false => exact .inl rfl
          | true =>
            simp [thrOk, hv] at hb
            by_cases hk1 : k < 1
            · exact .inr (.inl ⟨rfl, hk1⟩)
            · exact .inr (.inr ⟨rfl, by omega, by omega⟩)
        clear hX hb
        go_wp2_with fail
        refine (tS k _ _ _ _ _ _ HX.out.1 HX.out.2 iS hs2).mono ?_
        rintro e w2 ⟨rfl, b2⟩
        have B2 := below_step B1 b2
        have iS := iS.below b2
        clear B1 b2
        go_wp2_with fail
        refine (tI k _ _ _ _ _ _ HX.out.1 HX.out.2 iS hs2).mono ?_
        rintro e w3 ⟨rfl, b3⟩
        have B3 := below_step B2 b3
        have iS := iS.below b3
        clear B2 b3
        have HV := Lib.hid (implValid_any _ cS _ _ iS hs2)
        rcases hcs with hv | ⟨hv, hk⟩ | ⟨hv, hk1, hk⟩
        · rw [hv] at HV
          go_wp2_with (go_at_call 7; refine HV.out.mono ?_; rintro e w' ⟨rfl, rfl⟩)
          go_ret
          exact ⟨rfl, B3⟩
        · rw [hv] at HV
          go_wp2_with (go_at_call 7; refine HV.out.mono ?_; rintro e w' ⟨rfl, rfl⟩)
          go_ret
          exact ⟨rfl, B3⟩
        · rw [hv] at HV
          go_wp2_with (go_at_call 7; refine HV.out.mono ?_; rintro e w' ⟨rfl, rfl⟩)
          go_ret
          exact ⟨rfl, B3⟩
      | true =>
        obtain ⟨x, _, h2, h3, h4⟩ := thr_all hb
        rw [hX] at h2 h3 h4
        have HX := Lib.hid (And.intro hX hb)
        have hn64 : nmask ml < 64 := nmask_lt ml
        have hml := mem_len (nmask ml)
        obtain ⟨t, ht⟩ : ∃ t, t = mem (nmask ml) := ⟨_, rfl⟩
        have hvt : vld t = true := by rw [ht]; exact vld_mem hn64
        have htl : t.length ≤ 1048576 := by rw [ht]; omega
        have HS := Lib.hid (setOf_any ml)
        rw [← ht] at HS
        have h4t := h4 t hvt
        have H2 := Lib.hid h2
        have H3 := Lib.hid h3
        have H4 := Lib.hid h4t
        clear hX hb ht h2 h3 h4 h4t
        go_wp2_with fail
        refine (tS k _ _ _ _ _ _ HX.out.1 HX.out.2 iS hs2).mono ?_
        rintro e w2 ⟨rfl, b2⟩
        have B2 := below_step B1 b2
        have iS := iS.below b2
        clear B1 b2
        go_wp2_with fail
        refine (tI k _ _ _ _ _ _ HX.out.1 HX.out.2 iS hs2).mono ?_
        rintro e w3 ⟨rfl, b3⟩
        have B3 := below_step B2 b3
        have iS := iS.below b3
        clear B2 b3
        go_wp2_with fail
        refine (HS.out _ hl2).mono ?_
        rintro e w4 ⟨A4, c4, rfl, o4, b4⟩
        have B4 := below_step B3 b4
        have iS := iS.below b4
        have i4 := (IL.of_own o4).1
        clear B3 b4 o4
        go_wp2_with fail
        refine (rI X _ _ _ _ _ H4.out hXs i4 htl).mono ?_
        rintro e w5 ⟨rfl, b5⟩
        have B5 := below_step B4 b5
        have iS := iS.below b5
        have i4 := i4.below b5
        clear B4 b5
        go_wp2_with fail
        refine (implInter_any _ _ _ _ _ _ _ iS i4 hs2 htl).mono ?_
        rintro e w6 ⟨A6, c6, rfl, o6, b6⟩
        have B6 := below_step B5 b6
        have iS := iS.below b6
        clear B5 b6 o6 i4
        generalize (both inter s t).length = n at *
        by_cases hq : k ≤ (n : Int)
        · have hqd : decide (k ≤ (n : Int)) = true := decide_eq_true hq
          go_wp2_with fail
          have HM := Lib.hid (implMembersX X w6 hXs)
          rw [H2.out] at HM
          refine HM.out.mono ?_
          rintro e w7 ⟨A7, c7, rfl, o7, b7⟩
          have B7 := below_step B6 b7
          have iS := iS.below b7
          have i7 := (IL.of_own o7).1
          clear B6 b7 o7 HM
          go_wp2_with fail
          refine (sameInts_yes _ _ _ _ _ _ i7 iS hs2).mono ?_
          rintro e w8 ⟨rfl, b8⟩
          have B8 := below_step B7 b8
          clear B7 b8 i7 iS
          have HDp := Lib.hid (implDepthX X w8 hXs)
          rw [H3.out] at HDp
          go_wp2_with fail
          refine HDp.out.mono ?_
          rintro e w9 ⟨rfl, b9⟩
          have B9 := below_step B8 b9
          clear B8 b9 HDp
          go_wp2_with fail
          go_ret
          exact ⟨rfl, B9⟩
        · have hqd : decide (k ≤ (n : Int)) = false := decide_eq_false hq
          go_wp2_with fail
          have HM := Lib.hid (implMembersX X w6 hXs)
          rw [H2.out] at HM
          refine HM.out.mono ?_
          rintro e w7 ⟨A7, c7, rfl, o7, b7⟩
          have B7 := below_step B6 b7
          have iS := iS.below b7
          have i7 := (IL.of_own o7).1
          clear B6 b7 o7 HM
          go_wp2_with fail
          refine (sameInts_yes _ _ _ _ _ _ i7 iS hs2).mono ?_
          rintro e w8 ⟨rfl, b8⟩
          have B8 := below_step B7 b8
          clear B7 b8 i7 iS
          have HDp := Lib.hid (implDepthX X w8 hXs)
          rw [H3.out] at HDp
          go_wp2_with fail
          refine HDp.out.mono ?_
          rintro e w9 ⟨rfl, b9⟩
          have B9 := below_step B8 b9
          clear B8 b9 HDp
          go_wp2_with fail
          go_ret
          exact ⟨rfl, B9⟩
    · go_enter Tryd.func3, Tryd.ntmps3
      go_wp2_with fail
      go_ret
      exact ⟨rfl, Below.refl _ _⟩
  · go_enter Tryd.func3, Tryd.ntmps3
    go_wp2_with fail
    go_ret
    exact ⟨rfl, Below.refl _ _⟩
end Go.Proofs.YtncjpejkibhdoaaDoor
