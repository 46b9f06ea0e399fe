/- The walk of the law that a higher threshold is harder to satisfy. -/
import Derived.Test.YtmickonngpkoiaaDoorWThr2g
namespace Go.Proofs.YtmickonngpkoiaaDoor
open Go.RowKit

theorem thr_low {k q : Nat} {s t : List Int} (h : thrOk (k : Int) s = true) (h1 : 1 ≤ q) (h2 : q ≤ k) (ht : vld t = true) : thrOk (q : Int) s = true ∧ (satX (thrX (k : Int) s) t = true → satX (thrX (q : Int) s) t = true) := by
  have h' := h
  simp only [thrOk, Bool.and_eq_true, decide_eq_true_eq] at h'
  obtain ⟨⟨hv, h3⟩, h4⟩ := h'
  have hq : thrOk (q : Int) s = true := by
    simp only [thrOk, Bool.and_eq_true, decide_eq_true_eq]
    exact ⟨⟨hv, by omega⟩, by omega⟩
  refine ⟨hq, fun hs => ?_⟩
  obtain ⟨_, _, _, _, a4⟩ := thr_all h
  obtain ⟨_, _, _, _, b4⟩ := thr_all hq
  rw [a4 t ht, decide_eq_true_eq] at hs
  rw [b4 t ht, decide_eq_true_eq]
  omega

set_option maxRecDepth 100000 in
set_option maxHeartbeats 3200000 in
theorem walkThrMono (A B : Option Addr) (c d : Nat) (l m : List Int) (w : World) (ha : BL w A l) (hc : l.length ≤ c) (hmc : c ≤ maxLen) (hd : m.length ≤ d) (hmd : d ≤ maxLen) :
    Calls Tryd.prog 3 #[.slice A l.length c, .slice B m.length d] w fun e w' => e = .returned (.bool true) ∧ Below w.heap.size w w' := by
  have hm := Nat.le_trans hc hmc
  have hmm := Nat.le_trans hd hmd
  have hm1 := hm
  have hm2 := hmm
  unfold maxLen at hm1 hm2
  by_cases hl : l.length ≤ 1048576
  · by_cases hl2 : m.length ≤ 1048576
    · obtain ⟨ml, hml⟩ : ∃ ml, ml = m.length := ⟨_, rfl⟩
      rw [← hml] at hl2 hm2 ⊢
      clear hml hmm hd hmd
      go_enter Tryd.func3, Tryd.ntmps3
      go_wp2_with fail
      refine (drawThr_any _ _ _ _ ha hc hm hmc).mono ?_
      rintro e w1 ⟨⟨k, s, AS, cS, hk0, hk6, hs, rfl, iS⟩, B1⟩
      clear ha hm hc hmc
      have hs2 : s.length ≤ 1048576 := by omega
      obtain ⟨X, hX⟩ : ∃ X, thrX k s = X := ⟨_, rfl⟩
      have hXs : X.size ≤ 1048576 := by have := thrX_size k s; rw [hX] at this; omega
      cases hb : thrOk k s with
      | false =>
        have HX := Lib.hid (And.intro hX hb)
        clear hX hb
        go_wp2_with fail
        refine (tS k _ _ _ _ _ _ HX.out.1 HX.out.2 iS hs2).mono ?_
        rintro e w2 ⟨rfl, b2⟩
        have B2 := below_step B1 b2
        have iS := iS.below b2
        clear B1 b2
        go_wp2_with fail
        refine (tI k _ _ _ _ _ _ HX.out.1 HX.out.2 iS hs2).mono ?_
        rintro e w3 ⟨rfl, b3⟩
        have B3 := below_step B2 b3
        clear B2 b3
        go_wp2
        go_ret
        exact ⟨rfl, B3⟩
      | true =>
        obtain ⟨kn, rfl⟩ := Int.eq_ofNat_of_zero_le (show 0 ≤ k by simp only [thrOk, Bool.and_eq_true, decide_eq_true_eq] at hb; omega)
        have hn64 : nmask ml < 64 := nmask_lt ml
        have hml := mem_len (nmask ml)
        obtain ⟨t, ht⟩ : ∃ t, t = mem (nmask ml) := ⟨_, rfl⟩
        have hvt : vld t = true := by rw [ht]; exact vld_mem hn64
        have htl : t.length ≤ 1048576 := by rw [ht]; omega
        have HS := Lib.hid (setOf_any ml)
        rw [← ht] at HS
        have HX := Lib.hid (And.intro hX hb)
        have HL := Lib.hid (fun (q : Nat) (h1 : 1 ≤ q) (h2 : q ≤ kn) => thr_low hb h1 h2 hvt)
        rw [hX] at HL
        clear hX hb ht hvt hn64
        go_wp2_with fail
        refine (tS (kn : Int) _ _ _ _ _ _ HX.out.1 HX.out.2 iS hs2).mono ?_
        rintro e w2 ⟨rfl, b2⟩
        have B2 := below_step B1 b2
        have iS := iS.below b2
        clear B1 b2
        go_wp2_with fail
        refine (tI (kn : Int) _ _ _ _ _ _ HX.out.1 HX.out.2 iS hs2).mono ?_
        rintro e w3 ⟨rfl, b3⟩
        have B3 := below_step B2 b3
        have iS := iS.below b3
        clear B2 b3
        go_wp2_with fail
        refine (HS.out _ hl2).mono ?_
        rintro e w4 ⟨A4, c4, rfl, o4, b4⟩
        have B4 := below_step B3 b4
        have iS := iS.below b4
        have i4 := (IL.of_own o4).1
        clear B3 b4 o4 HS
        have SX := Lib.hid (fun (A : Option Addr) (c : Nat) (w : World) (hi : IL w A t) => implSatX X A c t w hXs hi htl)
        generalize satX X t = sb at *
        go_wp2
        go_loopw [12] (fun j wr => ∃ q : Nat, 1 ≤ q ∧ q ≤ kn + 1 ∧ j = .int .i64 q ∧ Below w4.heap.size w4 wr) (fun j _ => kn + 1 - (intOf j).toNat)
        case atStart => exact ⟨1, by omega, by omega, rfl, Below.refl _ _⟩
        case round =>
          obtain ⟨q, hq1, hq2, rfl, hbel⟩ := hrel
          by_cases hlt : q ≤ kn
          · have hqk : (q : Int) ≤ (kn : Int) := by omega
            obtain ⟨t1, t2⟩ := HL.out q hq1 hlt
            obtain ⟨Y, hY⟩ : ∃ Y, thrX (q : Int) s = Y := ⟨_, rfl⟩
            rw [hY] at t2
            have hYs : Y.size ≤ 1048576 := by have := thrX_size (q : Int) s; rw [hY] at this; omega
            have HY := Lib.hid (And.intro hY t1)
            have HT := Lib.hid t2
            have iS5 := iS.below hbel
            have i5 := i4.below hbel
            clear hY t1 t2
            go_wp2_with fail
            refine (tI (q : Int) _ _ _ _ _ _ HY.out.1 HY.out.2 iS5 hs2).mono ?_
            rintro e w5 ⟨rfl, b5⟩
            have hb5 := below_step hbel b5
            have i6 := i5.below b5
            clear hbel b5 iS5 i5
            go_wp2_with fail
            refine (SX.out _ _ _ i6).mono ?_
            rintro e w6 ⟨rfl, b6⟩
            have hb6 := below_step hb5 b6
            have i7 := i6.below b6
            clear hb5 b6 i6
            cases sb
            · go_wp2
              go_roundw
              case rel => exact ⟨q + 1, by omega, by omega, by go_num, hb6⟩
              case measure => simp [intOf]; omega
            · have HU := Lib.hid (HT.out rfl)
              go_wp2_with fail
              refine (rI Y _ _ _ _ _ HU.out hYs i7 htl).mono ?_
              rintro e w7 ⟨rfl, b7⟩
              have hb7 := below_step hb6 b7
              clear hb6 b7 i7
              go_wp2
              go_roundw
              case rel => exact ⟨q + 1, by omega, by omega, by go_num, hb7⟩
              case measure => simp [intOf]; omega
          · have hqk : ¬ ((q : Int) ≤ (kn : Int)) := by omega
            have B5 := below_step B4 hbel
            clear hbel
            go_wp2
            go_ret
            exact ⟨rfl, B5⟩
    · go_enter Tryd.func3, Tryd.ntmps3
      go_wp2_with fail
      go_ret
      exact ⟨rfl, Below.refl _ _⟩
  · go_enter Tryd.func3, Tryd.ntmps3
    go_wp2_with fail
    go_ret
    exact ⟨rfl, Below.refl _ _⟩
end Go.Proofs.YtmickonngpkoiaaDoor
