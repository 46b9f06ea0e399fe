/- The walks of the laws on smallest quorums, critical members and survival. -/
import Derived.Test.YtoomaiclbblcdaaWMetLg
import Derived.Test.YtoomaiclbblcdaaWLawsg
import Derived.Test.YtoomaiclbblcdaaWHasQLg
namespace Go.Proofs.Ytoomaiclbblcdaa
open Go.RowKit

/-- Whether one of the first k sets has s members. -/
def fnd (F : List (List Int)) (s k : Nat) : Bool := (F.take k).any fun l => l.length == s
theorem fnd_succ {F : List (List Int)} {s k : Nat} {l : List Int} (h : F[k]? = some l) : fnd F s (k + 1) = (fnd F s k || (l.length == s)) := by
  simp [fnd, List.take_add_one, h]
theorem fnd_all {F : List (List Int)} (h : transOk F = true) : fnd F (sml F F.length) F.length = true := by
  obtain ⟨_, j, l, hj, hx, he⟩ := sml_all F F.length (Nat.le_refl _) (trans_len h).2
  rw [fnd, List.take_length, List.any_eq_true]
  exact ⟨l, List.mem_of_getElem? hx, by rw [he]; simp⟩
theorem sml_row {F : List (List Int)} (h : transOk F = true) {k : Nat} {l : List Int} (hx : F[k]? = some l) : sml F F.length ≤ l.length :=
  (sml_all F F.length (Nat.le_refl _) (trans_len h).2).1 k l (List.getElem?_eq_some_iff.1 hx).1 hx
theorem sml_neg {F : List (List Int)} (h : smlR F < 0) : transOk F = false := by
  cases hT : transOk F with
  | false => rfl
  | true => rw [smlR, if_pos hT] at h; omega
theorem sml_pos {F : List (List Int)} (h : ¬ smlR F < 0) : transOk F = true ∧ smlR F = (sml F F.length : Int) := by
  cases hT : transOk F with
  | false => simp [smlR, hT] at h
  | true => exact ⟨rfl, by rw [smlR, if_pos hT]⟩
theorem sml_six {F : List (List Int)} (h : transOk F = true) : sml F F.length ≤ 6 := by
  have := (sml_rng F).2
  rw [smlR, if_pos h] at this
  omega

set_option maxRecDepth 100000 in
set_option maxHeartbeats 1600000 in
theorem walkSmlL (A : Option Addr) (c : Nat) (l : List Int) (w : World) (ha : BL w A l) (hc : l.length ≤ c) (hm : l.length ≤ maxLen) (hmc : c ≤ maxLen) :
    Calls Try.prog 7 #[.slice A l.length c] w fun e w' => e = .returned (.bool true) ∧ Below w.heap.size w w' := by
  have hm1 := hm
  unfold maxLen at hm1
  by_cases hl : l.length ≤ 1048576
  · go_enter Try.func7, Try.ntmps7
    go_wp2_with fail
    refine (drawSml_any _ _ _ _ ha hc hm hmc).mono ?_
    rintro e w1 ⟨F, A1, c1, hF, hS, rfl, i1, B1⟩
    clear ha hm hc hmc
    have hFl : F.length ≤ 1048576 := by omega
    have hFs : Short F 1048576 := fun x hx => Nat.le_trans (hS x hx) (by omega)
    go_wp2_with fail
    refine (implSmall_any _ _ _ _ i1 hFl hFs).mono ?_
    rintro e w2 ⟨rfl, b2⟩
    have i2 := i1.below b2
    have B2 := below_step B1 b2
    clear i1 B1 b2
    go_wp2_with fail
    refine (specSmall_any _ _ _ _ i2 hFl hFs).mono ?_
    rintro e w3 ⟨rfl, d3⟩
    have i3 := i2.below d3.below
    have B3 := below_step B2 d3.below
    clear i2 B2 d3
    by_cases h0 : smlR F < 0
    · have HT := Lib.hid (sml_neg h0)
      go_wp2_with fail
      refine (specSmall_any _ _ _ _ i3 hFl hFs).mono ?_
      rintro e w4 ⟨rfl, d4⟩
      have i4 := i3.below d4.below
      have B4 := below_step B3 d4.below
      clear i3 B3 d4
      go_wp2_with fail
      refine (implFam_any _ _ _ _ i4 hFl hFs).mono ?_
      rintro e w5 ⟨he, b5⟩
      have B5 := below_step B4 b5
      clear i4 B4 b5
      cases hf : famOk F
      · rw [hf] at he
        subst he
        clear hf
        go_wp2
        go_ret
        exact ⟨rfl, B5⟩
      · rw [hf] at he
        subst he
        have h0b : ((F.length : Int) == 0) = true := by
          have := HT.out
          simp [transOk, hf] at this
          simp [this]
        clear hf
        go_wp2
        go_ret
        exact ⟨rfl, B5⟩
    · obtain ⟨hT, hR⟩ := sml_pos h0
      have HF := Lib.hid (fnd_all hT)
      have HR := Lib.hid (fun (k : Nat) (l : List Int) (hx : F[k]? = some l) => sml_row hT hx)
      have hs6 := sml_six hT
      clear hT
      rw [hR] at h0 ⊢
      clear hR
      generalize sml F F.length = s at *
      go_wp2
      go_loop [5, 6] (fun v i => ∃ (k : Nat) (b : Bool), k ≤ F.length ∧ i = .int .i64 k ∧ v = .bool b ∧ Hid (b = fnd F s k)) (fun _ i => F.length - (intOf i).toNat)
      case atStart => exact ⟨0, false, Nat.zero_le _, rfl, rfl, Lib.hid (by simp [fnd])⟩
      case round =>
        obtain ⟨k, b, hk, rfl, rfl, HX⟩ := hrel
        by_cases hlt : k < F.length
        · obtain ⟨bb, off, p, B', d', rfl, hx, hcc, hil⟩ := i3.at_ hlt
          have hpl := hFs.at_ hx
          have hge := HR.out _ _ hx
          have hge2 : ¬ ((p.length : Int) < (s : Int)) := by omega
          have hki : (0 : Int) ≤ (k : Int) := by omega
          have hki2 : (k : Int) < (F.length : Int) := by omega
          have HX2 := Lib.hid (fnd_succ (s := s) hx)
          clear hx hil hge
          cases b
          · by_cases he : p.length = s
            · have heb : ((p.length : Int) == (s : Int)) = true := by simp [he]
              have HX3 := Lib.hid (show true = fnd F s (k + 1) by rw [HX2.out, ← HX.out]; simp [he])
              clear HX HX2 he
              go_wp2
              go_round
              case rel => exact ⟨k + 1, true, by omega, by go_num, rfl, HX3⟩
              case measure => simp [intOf]; omega
            · have heb : ((p.length : Int) == (s : Int)) = false := beq_eq_false_iff_ne.2 (by omega)
              have HX3 := Lib.hid (show false = fnd F s (k + 1) by rw [HX2.out, ← HX.out]; simp [he])
              clear HX HX2 he
              go_wp2
              go_round
              case rel => exact ⟨k + 1, false, by omega, by go_num, rfl, HX3⟩
              case measure => simp [intOf]; omega
          · have HX3 := Lib.hid (show true = fnd F s (k + 1) by rw [HX2.out, ← HX.out]; rfl)
            clear HX HX2
            go_wp2
            go_round
            case rel => exact ⟨k + 1, true, by omega, by go_num, rfl, HX3⟩
            case measure => simp [intOf]; omega
        · have hkl : k = F.length := by omega
          subst hkl
          have hb : b = true := by rw [HX.out, HF.out]
          subst hb
          clear HX HF
          go_wp2
          go_ret
          exact ⟨rfl, B3⟩
  · have hl2 : (1048576 : Int) < (l.length : Int) := by omega
    go_enter Try.func7, Try.ntmps7
    go_wp2
    go_ret
    exact ⟨rfl, Below.refl _ _⟩

theorem il_sgl (w : World) (x : Int) : IL (w.alloc (.cells #[.int .i64 x] 3)) (some ⟨w.heap.size, 0, none⟩) [x] := by
  refine .inr ⟨w.heap.size, 0, rfl, by simp, fun j y hy => ?_⟩
  cases j with
  | zero => simp at hy; subst hy; rw [cell_of_row _ w.heap.size 0 _ _ (0, 0) (heap_alloc_new w _)]; rfl
  | succ j => simp at hy
theorem crit_law {F : List (List Int)} (h : transOk F = true) {k : Nat} (h1 : 1 ≤ k) (h6 : k ≤ 6) : hasR (crtR F) (k : Int) = !srvR F [(k : Int)] := by
  have hx : (k : Int) ∈ six := by
    have H : ∀ k : Fin 7, k.val = 0 ∨ (k.val : Int) ∈ six := by decide
    rcases H ⟨k, by omega⟩ with h | h
    · simp only at h; omega
    · exact h
  rw [hasR, crtR_vld h, ← crit_surv h hx]
  rfl

set_option maxRecDepth 100000 in
set_option maxHeartbeats 1600000 in
theorem walkCritL (A : Option Addr) (c : Nat) (l : List Int) (w : World) (ha : BL w A l) (hc : l.length ≤ c) (hm : l.length ≤ maxLen) (hmc : c ≤ maxLen) :
    Calls Try.prog 8 #[.slice A l.length c] w fun e w' => e = .returned (.bool true) ∧ Below w.heap.size w w' := by
  have hm1 := hm
  unfold maxLen at hm1
  by_cases hl : l.length ≤ 1048576
  · go_enter Try.func8, Try.ntmps8
    go_wp2_with fail
    refine (drawCrt_any _ _ _ _ ha hc hm hmc).mono ?_
    rintro e w1 ⟨F, A1, c1, hF, hS, rfl, i1, B1⟩
    clear ha hm hc hmc
    have hFl : F.length ≤ 1048576 := by omega
    have hFs : Short F 1048576 := fun x hx => Nat.le_trans (hS x hx) (by omega)
    have hCl := crtR_len F
    go_wp2_with fail
    refine (implCrit_any _ _ _ _ i1 hFl hFs).mono ?_
    rintro e w2 ⟨A2, c2, rfl, o2, b2⟩
    have i2 := i1.below b2
    have s2 := (IL.of_own o2).1
    have B2 := below_step B1 b2
    clear i1 B1 b2 o2
    go_wp2_with fail
    refine (specCrit_any _ _ _ _ i2 hFl hFs).mono ?_
    rintro e w3 ⟨A3, c3, rfl, o3, b3⟩
    have i3 := i2.below b3
    have s3 := s2.below b3
    have t3 := (IL.of_own o3).1
    have B3 := below_step B2 b3
    clear i2 B2 b3 o3 s2
    go_wp2_with fail
    refine (sameInts_yes _ _ _ _ _ _ s3 t3 (by omega)).mono ?_
    rintro e w4 ⟨rfl, b4⟩
    have i4 := i3.below b4
    have s4 := s3.below b4
    have B4 := below_step B3 b4
    clear i3 B3 b4 s3 t3
    go_wp2_with fail
    refine (specFam_any _ _ _ _ i4 hFl hFs).mono ?_
    rintro e w5 ⟨he, d5⟩
    have i5 := i4.below d5.below
    have s5 := s4.below d5.below
    have B5 := below_step B4 d5.below
    clear i4 B4 s4 d5
    cases hf : famOk F
    · rw [hf] at he
      subst he
      clear hf
      go_wp2_with fail
      refine (specCrit_any _ _ _ _ i5 hFl hFs).mono ?_
      rintro e w6 ⟨A6, c6, rfl, o6, b6⟩
      have s6 := s5.below b6
      have t6 := (IL.of_own o6).1
      have B6 := below_step B5 b6
      clear i5 B5 b6 o6 s5
      go_wp2_with fail
      refine (sameInts_yes _ _ _ _ _ _ s6 t6 (by omega)).mono ?_
      rintro e w7 ⟨rfl, b7⟩
      have B7 := below_step B6 b7
      clear s6 t6 B6 b7
      go_wp2
      go_ret
      exact ⟨rfl, B7⟩
    · rw [hf] at he
      subst he
      by_cases h0 : F.length = 0
      · have h0b : ((F.length : Int) == 0) = true := by simp [h0]
        clear hf h0
        go_wp2_with fail
        refine (specCrit_any _ _ _ _ i5 hFl hFs).mono ?_
        rintro e w6 ⟨A6, c6, rfl, o6, b6⟩
        have s6 := s5.below b6
        have t6 := (IL.of_own o6).1
        have B6 := below_step B5 b6
        clear i5 B5 b6 o6 s5
        go_wp2_with fail
        refine (sameInts_yes _ _ _ _ _ _ s6 t6 (by omega)).mono ?_
        rintro e w7 ⟨rfl, b7⟩
        have B7 := below_step B6 b7
        clear s6 t6 B6 b7
        go_wp2
        go_ret
        exact ⟨rfl, B7⟩
      · have h0b : ((F.length : Int) == 0) = false := beq_eq_false_iff_ne.2 (by omega)
        have hT : transOk F = true := by simp [transOk, hf]; omega
        have HC := Lib.hid (fun (k : Nat) (h1 : 1 ≤ k) (h6 : k ≤ 6) => crit_law hT h1 h6)
        have HV := Lib.hid (crtR_vld hT)
        clear hf h0 hT
        generalize crtR F = C at *
        go_wp2
        go_loopw [5] (fun i wr => ∃ k : Nat, 1 ≤ k ∧ k ≤ 7 ∧ i = .int .i64 k ∧ Below w5.heap.size w5 wr) (fun i _ => 7 - (intOf i).toNat)
        case atStart => exact ⟨1, by omega, by omega, rfl, Below.refl _ _⟩
        case round =>
          obtain ⟨k, hk1, hk7, rfl, hbel⟩ := hrel
          by_cases hlt : k < 7
          · have HK := Lib.hid (HC.out k hk1 (by omega))
            have hk6 : (k : Int) ≤ 6 := by omega
            go_wp2_with fail
            refine (implContains_any _ _ _ (k : Int) _ (s5.below hbel) (by omega)).mono ?_
            rintro e w' ⟨he, rfl⟩
            rw [HK.out] at he
            subst he
            have hbA : Below wr.heap.size wr (wr.alloc (.cells #[.int .i64 (k : Int)] 3)) := (Below.refl _ wr).alloc (Nat.le_refl _) _
            have hA := below_step hbel hbA
            have x1 := il_sgl wr (k : Int)
            have HS := Lib.hid (fun (B : Option Addr) (d : Nat) (W : World) (ha : ISS W A1 F) (hb : IL W B [(k : Int)]) => implSurv_any A1 B c1 d F [(k : Int)] W ha hb hFl hFs (by simp))
            go_wp2_with fail
            refine (HS.out _ _ _ (i5.below hA) x1).mono ?_
            rintro e w6 ⟨rfl, b6⟩
            have B6 := below_step hA b6
            clear hbA hA x1 HS b6 hbel HK
            generalize srvR F [(k : Int)] = v at *
            cases v
            · go_wp2
              go_roundw
              case rel => exact ⟨k + 1, by omega, by omega, by go_num, B6⟩
              case measure => simp [intOf]; omega
            · go_wp2
              go_roundw
              case rel => exact ⟨k + 1, by omega, by omega, by go_num, B6⟩
              case measure => simp [intOf]; omega
          · have hke : k = 7 := by omega
            subst hke
            have s6 := s5.below hbel
            have B6 := below_step B5 hbel
            go_wp2_with fail
            refine (implValid_any _ _ _ _ s6 (by omega)).mono ?_
            rintro e w' ⟨he, rfl⟩
            rw [HV.out] at he
            subst he
            go_wp2
            go_ret
            exact ⟨rfl, B6⟩
  · have hl2 : (1048576 : Int) < (l.length : Int) := by omega
    go_enter Try.func8, Try.ntmps8
    go_wp2
    go_ret
    exact ⟨rfl, Below.refl _ _⟩
end Go.Proofs.Ytoomaiclbblcdaa
