/- The walks of the laws on resilience and availability, subset by subset. -/
import Derived.Test.YtoomaiclbblcdaaWMetMg
import Derived.Test.YtoomaiclbblcdaaGh
namespace Go.Proofs.Ytoomaiclbblcdaa
open Go.RowKit

def brk (K : List Nat) (n : Nat) : Nat → Bool
  | 0 => false
  | k + 1 => brk K n k || (badB K (fst n) k && ((mem k).length == wst K n 64))
theorem brk_any {K : List Nat} {n m : Nat} (hb : badB K (fst n) m = true) (he : (mem m).length = wst K n 64) : ∀ k, m < k → brk K n k = true
  | 0, h => by omega
  | k + 1, h => by
    rcases Nat.eq_or_lt_of_le (Nat.le_of_lt_succ h) with rfl | h1
    · simp [brk, hb, he]
    · simp [brk, brk_any hb he k h1]
theorem brk_all {K : List Nat} (hK : Sys K) {n : Nat} (hn : n ≤ 6) : brk K n 64 = true := by
  obtain ⟨m, hm, hb, he⟩ := wst_hit hK hn
  exact brk_any hb he 64 hm
theorem take_first {n : Nat} (hn : n ≤ 6) : (mem 63).take n = mem (fst n) := by
  have H : ∀ n : Fin 7, (mem 63).take n.val = mem (fst n.val) := by decide +kernel
  exact H ⟨n, by omega⟩
theorem res_pos {F : List (List Int)} {n : Int} (h : ¬ resR F n < 0) : fitB F n = true := by
  cases hf : fitB F n with
  | true => rfl
  | false => simp [resR, hf] at h
theorem av_fit {F : List (List Int)} {n : Int} (h : ¬ avR F n < 0) : fitB F n = true := by
  cases hf : fitB F n with
  | true => rfl
  | false => simp [avR, hf] at h
theorem ofMaskK (k : Nat) (w : World) (hk : k < 64) : Calls Try.prog 21 #[.int .i64 (k : Int)] w (New2 w (mem k) true) := by
  have h1 : memR (k : Int) = mem k := by rw [memR, if_pos ⟨by omega, by omega⟩]; rfl
  have h2 : memOk (k : Int) = true := by rw [memOk]; exact decide_eq_true ⟨by omega, by omega⟩
  have := implOfMask_any (k : Int) w
  rw [h1, h2] at this
  exact this
theorem subK (A B : Option Addr) (c d k m : Nat) (w : World) (hk : k < 64) (hm : m ≤ 6) (ha : IL w A (mem k)) (hb : IL w B (mem (fst m))) :
    Calls Try.prog 22 #[.slice A (mem k).length c, .slice B m d] w fun e w' => e = .returned (.bool (sub k (fst m))) ∧ w = w' := by
  have h1 := mem_len k
  have h2 := mem_len (fst m)
  have := implSubset_any A B c d (mem k) (mem (fst m)) w ha hb (by omega) (by omega)
  rw [fst_len hm, subsR_w (vld_mem hk) (vld_mem (fst_lt hm)), subs_mem hk (fst_lt hm)] at this
  exact this
theorem minK (A B : Option Addr) (c d k m : Nat) (w : World) (hk : k < 64) (hm : m ≤ 6) (ha : IL w A (mem k)) (hb : IL w B (mem (fst m))) :
    Calls Try.prog 24 #[.slice B m d, .slice A (mem k).length c] w (New w (mem (andNot (fst m) k))) := by
  have h1 := mem_len k
  have h2 := mem_len (fst m)
  have := implMinus_any B A d c (mem (fst m)) (mem k) w hb ha (by omega) (by omega)
  rw [fst_len hm, minus_first hm hk] at this
  exact this
theorem hasK (A B : Option Addr) (c d y : Nat) (F : List (List Int)) (w : World) (hf : famOk F = true) (hy : y < 64) (ha : ISS w A F) (hb : IL w B (mem y)) (hl : F.length ≤ 1048576) (hs : Short F 1048576) :
    Calls Try.prog 23 #[.slice A F.length c, .slice B (mem y).length d] w fun e w' => e = .returned (.bool (hasQ (msks F) y)) ∧ Below w.heap.size w w' := by
  have h1 := mem_len y
  have := implHasQ_any A B c d F (mem y) w ha hb hl hs (by omega)
  rw [hq_valid hf (vld_mem hy), hasL_m hf hy] at this
  exact this
theorem il_takeM {w : World} {A : Option Addr} {l : List Int} (h : IL w A l) (n : Nat) : IL w A (l.take n) := by
  rcases h with rfl | ⟨b, off, rfl, hlt, hc⟩
  · left; simp
  · exact .inr ⟨b, off, rfl, hlt, fun j x hx => by
      rw [List.getElem?_take] at hx
      split at hx
      · exact hc j x hx
      · cases hx⟩

set_option maxRecDepth 100000 in
set_option maxHeartbeats 3200000 in
theorem walkResL (A : Option Addr) (c : Nat) (l : List Int) (w : World) (ha : BL w A l) (hc : l.length ≤ c) (hm : l.length ≤ maxLen) (hmc : c ≤ maxLen) :
    Calls Try.prog 3 #[.slice A l.length c] w fun e w' => e = .returned (.bool true) ∧ Below w.heap.size w w' := by
  have hm1 := hm
  unfold maxLen at hm1
  by_cases hl : l.length ≤ 1048576
  · go_enter Try.func3, Try.ntmps3
    go_wp2_with fail
    refine (drawRes_any _ _ _ _ ha hc hm hmc).mono ?_
    rintro e w1 ⟨F, n, A1, c1, hF, hS, hn0, hn7, rfl, i1, B1⟩
    clear ha hm hc hmc
    have hFl : F.length ≤ 1048576 := by omega
    have hFs : Short F 1048576 := fun x hx => Nat.le_trans (hS x hx) (by omega)
    go_wp2_with fail
    refine (implRes_any _ _ _ _ _ i1 hFl hFs).mono ?_
    rintro e w2 ⟨rfl, b2⟩
    have i2 := i1.below b2
    have B2 := below_step B1 b2
    clear i1 B1 b2
    go_wp2_with fail
    refine (specRes_any _ _ _ _ _ i2 hFl hFs).mono ?_
    rintro e w3 ⟨rfl, b3⟩
    have i3 := i2.below b3
    have B3 := below_step B2 b3
    clear i2 B2 b3
    by_cases h0 : resR F n < 0
    · go_wp2_with fail
      refine (specRes_any _ _ _ _ _ i3 hFl hFs).mono ?_
      rintro e w4 ⟨rfl, b4⟩
      have B4 := below_step B3 b4
      clear i3 B3 b4
      go_wp2
      go_ret
      exact ⟨rfl, B4⟩
    · have hfit := res_pos h0
      obtain ⟨hT, hn1, hn6, _⟩ := fitB_parts.1 hfit
      obtain ⟨m, rfl⟩ := Int.eq_ofNat_of_zero_le hn0
      have hm6 : m ≤ 6 := by omega
      have hfam := (trans_parts hT).1
      have hSys := famOk_sys hfam
      have hN := fst_lt hm6
      have hrr := res_rng F (m : Int)
      have HR := Lib.hid (show resR F (m : Int) = (wst (msks F) m 64 : Int) - 1 by rw [resR, if_pos hfit]; rfl)
      have HW := Lib.hid (fun (k : Nat) (hk : k < 64) (hb : badB (msks F) (fst m) k = true) => (wst_min (msks F) m 64).1 k hk hb)
      have HE := Lib.hid (brk_all hSys hm6)
      have HBd := Lib.hid (show ∀ k, badB (msks F) (fst m) k = (sub k (fst m) && !hasQ (msks F) (andNot (fst m) k)) from fun _ => rfl)
      have HBr := Lib.hid (show ∀ k, brk (msks F) m (k + 1) = (brk (msks F) m k || (badB (msks F) (fst m) k && ((mem k).length == wst (msks F) m 64))) from fun _ => rfl)
      have HB0 := Lib.hid (show brk (msks F) m 0 = false from rfl)
      have HSub := Lib.hid (fun (A B : Option Addr) (c d k : Nat) (w : World) (hk : k < 64) (ha : IL w A (mem k)) (hb : IL w B (mem (fst m))) => subK A B c d k m w hk hm6 ha hb)
      have HMin := Lib.hid (fun (A B : Option Addr) (c d k : Nat) (w : World) (hk : k < 64) (ha : IL w A (mem k)) (hb : IL w B (mem (fst m))) => minK A B c d k m w hk hm6 ha hb)
      have HHas := Lib.hid (fun (B : Option Addr) (d y : Nat) (w : World) (hy : y < 64) (ha : ISS w A1 F) (hb : IL w B (mem y)) => hasK A1 B c1 d y F w hfam hy ha hb hFl hFs)
      have HTk := Lib.hid (take_first hm6)
      have HAn := Lib.hid (fun (k : Nat) => andNot_lt (b := k) hN)
      clear hT hfam hSys hfit
      generalize msks F = K at *
      generalize fst m = N at *
      generalize hr : resR F (m : Int) = r at *
      have HRr := Lib.hid hr
      clear hr
      go_wp2_with fail
      refine (allM_any _).mono ?_
      rintro e w4 ⟨A4, c4, rfl, o4, b4⟩
      have x4 := il_takeM (IL.of_own o4).1 m
      obtain ⟨g4, rfl, hbg4, hgl4⟩ := own_form o4 (by decide)
      have hc4 : 6 ≤ c4 := by
        rcases o4.2 with ⟨hv, _⟩ | ⟨g, cap, cur, hv, _, _, hnc, _⟩
        · cases hv
        · injection hv with _ _ hcc
          have h6 : (mem 63).length = 6 := by decide
          omega
      have hl6 : (mem 63).length = 6 := by decide
      rw [HTk.out] at x4
      have i4 := i3.below b4
      have B4 := below_step B3 b4
      have hsl : ¬ ((m : Int) < 0) := by omega
      have hsl2 : (m : Int) ≤ (c4 : Int) := by omega
      have hsl3 : m ≤ c4 := by omega
      clear o4 b4 B3 i3 hbg4 hgl4 HTk
      go_wp2
      go_loopw [7, 8] (fun v i wr => ∃ (k : Nat) (b : Bool), k ≤ 64 ∧ i = .int .i64 k ∧ v = .bool b ∧ Hid (b = brk K m k) ∧ Below w4.heap.size w4 wr) (fun _ i _ => 64 - (intOf i).toNat)
      case atStart => exact ⟨0, false, by omega, rfl, rfl, Lib.hid HB0.out.symm, Below.refl _ _⟩
      case round =>
        obtain ⟨k, b, hk, rfl, rfl, HX, hbel⟩ := hrel
        by_cases hlt : k < 64
        · have hml := mem_len k
          have HW2 := Lib.hid (HW.out k hlt)
          go_wp2_with fail
          refine (ofMaskK k _ hlt).mono ?_
          rintro e w5 ⟨A5, c5, rfl, o5, b5⟩
          have y5 := (IL.of_own o5).1
          have B5 := below_step hbel b5
          have x5 := x4.below B5
          clear o5 b5 hbel
          go_wp2_with fail
          refine (HSub.out _ _ _ _ _ _ hlt y5 x5).mono ?_
          rintro e w' ⟨he, rfl⟩
          cases hsk : sub k N
          · rw [hsk] at he
            subst he
            have HX2 := Lib.hid (show b = brk K m (k + 1) by rw [HBr.out, HBd.out, hsk, HX.out]; simp)
            clear HX hsk HW2
            go_wp2
            go_roundw
            case rel => exact ⟨k + 1, b, by omega, by go_num, rfl, HX2, B5⟩
            case measure => simp [intOf]; omega
          · rw [hsk] at he
            subst he
            go_wp2_with fail
            refine (HMin.out _ _ _ _ _ _ hlt y5 x5).mono ?_
            rintro e w6 ⟨A6, c6, rfl, o6, b6⟩
            have z6 := (IL.of_own o6).1
            have B6 := below_step B5 b6
            clear o6 b6 B5 x5 y5
            go_wp2_with fail
            refine (HHas.out _ _ _ _ (HAn.out k) (i4.below B6) z6).mono ?_
            rintro e w7 ⟨he, b7⟩
            have B7 := below_step B6 b7
            clear b7 B6 z6
            cases hq : hasQ K (andNot N k)
            · rw [hq] at he
              subst he
              have hbad : badB K N k = true := by rw [HBd.out, hsk, hq]; rfl
              have hge := HW2.out hbad
              have hgt : ¬ (((mem k).length : Int) ≤ r) := by rw [HR.out]; omega
              have HBk := Lib.hid (show brk K m (k + 1) = (b || ((mem k).length == wst K m 64)) by rw [HBr.out, hbad, HX.out]; simp)
              cases b
              · by_cases he : (mem k).length = wst K m 64
                · have heb : (((mem k).length : Int) == r + 1) = true := by rw [HR.out, he]; simp
                  have HX3 := Lib.hid (show true = brk K m (k + 1) by rw [HBk.out]; simp [he])
                  clear HX HBk HW2 hbad hge he hq hsk
                  generalize (mem k).length = y at *
                  go_wp2
                  go_roundw
                  case rel => exact ⟨k + 1, true, by omega, by go_num, rfl, HX3, B7⟩
                  case measure => simp [intOf]; omega
                · have heb : (((mem k).length : Int) == r + 1) = false := beq_eq_false_iff_ne.2 (by rw [HR.out]; omega)
                  have HX3 := Lib.hid (show false = brk K m (k + 1) by rw [HBk.out]; simp [he])
                  clear HX HBk HW2 hbad hge he hq hsk
                  generalize (mem k).length = y at *
                  go_wp2
                  go_roundw
                  case rel => exact ⟨k + 1, false, by omega, by go_num, rfl, HX3, B7⟩
                  case measure => simp [intOf]; omega
              · have HX3 := Lib.hid (show true = brk K m (k + 1) by rw [HBk.out]; rfl)
                clear HX HBk HW2 hbad hge hq hsk
                generalize (mem k).length = y at *
                go_wp2
                go_roundw
                case rel => exact ⟨k + 1, true, by omega, by go_num, rfl, HX3, B7⟩
                case measure => simp [intOf]; omega
            · rw [hq] at he
              subst he
              have HX3 := Lib.hid (show b = brk K m (k + 1) by rw [HBr.out, HBd.out, hsk, hq, HX.out]; simp)
              clear HX HW2 hq hsk
              generalize (mem k).length = y at *
              by_cases hle : (y : Int) ≤ r
              · cases b
                · by_cases heb : (y : Int) = r + 1
                  · omega
                  · have heb2 : ((y : Int) == r + 1) = false := beq_eq_false_iff_ne.2 heb
                    clear heb
                    go_wp2
                    go_roundw
                    case rel => exact ⟨k + 1, false, by omega, by go_num, rfl, HX3, B7⟩
                    case measure => simp [intOf]; omega
                · go_wp2
                  go_roundw
                  case rel => exact ⟨k + 1, true, by omega, by go_num, rfl, HX3, B7⟩
                  case measure => simp [intOf]; omega
              · cases b
                · by_cases heb : (y : Int) = r + 1
                  · have heb2 : ((y : Int) == r + 1) = true := by simp [heb]
                    have hr1 : r = (y : Int) - 1 := by omega
                    clear heb hr1
                    go_wp2
                    go_roundw
                    case rel => exact ⟨k + 1, false, by omega, by go_num, rfl, HX3, B7⟩
                    case measure => simp [intOf]; omega
                  · have heb2 : ((y : Int) == r + 1) = false := beq_eq_false_iff_ne.2 heb
                    clear heb
                    go_wp2
                    go_roundw
                    case rel => exact ⟨k + 1, false, by omega, by go_num, rfl, HX3, B7⟩
                    case measure => simp [intOf]; omega
                · go_wp2
                  go_roundw
                  case rel => exact ⟨k + 1, true, by omega, by go_num, rfl, HX3, B7⟩
                  case measure => simp [intOf]; omega
        · have hke : k = 64 := by omega
          subst hke
          have hb : b = true := by rw [HX.out, HE.out]
          subst hb
          have B5 := below_step B4 hbel
          clear HX HE hbel B4
          go_wp2
          go_ret
          exact ⟨rfl, B5⟩
  · have hl2 : (1048576 : Int) < (l.length : Int) := by omega
    go_enter Try.func3, Try.ntmps3
    go_wp2
    go_ret
    exact ⟨rfl, Below.refl _ _⟩

def maj5 : ByteArray := ⟨#[51, 40, 49, 44, 50, 44, 51, 44, 52, 44, 53, 41]⟩
theorem maj5_av : avR (outM (expM maj5) (okX maj5)) 5 = 16 := by decide +kernel

set_option maxRecDepth 100000 in
set_option maxHeartbeats 3200000 in
theorem walkAvL (A : Option Addr) (c : Nat) (l : List Int) (w : World) (ha : BL w A l) (hc : l.length ≤ c) (hm : l.length ≤ maxLen) (hmc : c ≤ maxLen) :
    Calls Try.prog 5 #[.slice A l.length c] w fun e w' => e = .returned (.bool true) ∧ Below w.heap.size w w' := by
  have hm1 := hm
  unfold maxLen at hm1
  by_cases hl : l.length ≤ 1048576
  · go_enter Try.func5, Try.ntmps5
    go_wp2_with fail
    refine (drawAv_any _ _ _ _ ha hc hm hmc).mono ?_
    rintro e w1 ⟨F, n, A1, c1, hF, hS, hn0, hn7, rfl, i1, B1⟩
    clear ha hm hc hmc
    have hFl : F.length ≤ 1048576 := by omega
    have hFs : Short F 1048576 := fun x hx => Nat.le_trans (hS x hx) (by omega)
    go_wp2_with fail
    refine (implAv_any _ _ _ _ _ i1 hFl hFs).mono ?_
    rintro e w2 ⟨rfl, b2⟩
    have i2 := i1.below b2
    have B2 := below_step B1 b2
    clear i1 B1 b2
    go_wp2_with fail
    refine (specAv_any _ _ _ _ _ i2 hFl hFs).mono ?_
    rintro e w3 ⟨rfl, b3⟩
    have i3 := i2.below b3
    have B3 := below_step B2 b3
    clear i2 B2 b3
    by_cases h0 : avR F n < 0
    · go_wp2_with fail
      refine (specAv_any _ _ _ _ _ i3 hFl hFs).mono ?_
      rintro e w4 ⟨rfl, b4⟩
      have B4 := below_step B3 b4
      clear i3 B3 b4
      go_wp2
      go_ret
      exact ⟨rfl, B4⟩
    · have hfit := av_fit h0
      obtain ⟨hT, hn1, hn6, _⟩ := fitB_parts.1 hfit
      obtain ⟨m, rfl⟩ := Int.eq_ofNat_of_zero_le hn0
      have hm6 : m ≤ 6 := by omega
      have hfam := (trans_parts hT).1
      have hN := fst_lt hm6
      have HR := Lib.hid (show avR F (m : Int) = (cntQ (msks F) (fst m) 64 : Int) by rw [avR, if_pos hfit]; rfl)
      have HCs := Lib.hid (show ∀ k, cntQ (msks F) (fst m) (k + 1) = if (sub k (fst m) && hasQ (msks F) k) = true then cntQ (msks F) (fst m) k + 1 else cntQ (msks F) (fst m) k from fun _ => rfl)
      have HC0 := Lib.hid (show cntQ (msks F) (fst m) 0 = 0 from rfl)
      have HCl := Lib.hid (cntQ_le (msks F) (fst m))
      have HSub := Lib.hid (fun (A B : Option Addr) (c d k : Nat) (w : World) (hk : k < 64) (ha : IL w A (mem k)) (hb : IL w B (mem (fst m))) => subK A B c d k m w hk hm6 ha hb)
      have HHas := Lib.hid (fun (B : Option Addr) (d y : Nat) (w : World) (hy : y < 64) (ha : ISS w A1 F) (hb : IL w B (mem y)) => hasK A1 B c1 d y F w hfam hy ha hb hFl hFs)
      have HTk := Lib.hid (take_first hm6)
      clear hT hfam hfit
      generalize msks F = K at *
      generalize fst m = N at *
      generalize hr : avR F (m : Int) = r at *
      have HRr := Lib.hid hr
      clear hr
      have hl6 : (mem 63).length = 6 := by decide
      go_wp2
      go_loopw [6, 7] (fun v i wr => ∃ (k x : Nat), k ≤ 64 ∧ i = .int .i64 k ∧ v = .int .i64 (x : Int) ∧ Hid (x = cntQ K N k) ∧ Below w3.heap.size w3 wr) (fun _ i _ => 64 - (intOf i).toNat)
      case atStart => exact ⟨0, 0, by omega, rfl, rfl, Lib.hid HC0.out.symm, Below.refl _ _⟩
      case round =>
        obtain ⟨k, x, hk, rfl, rfl, HX, hbel⟩ := hrel
        have hx64 : x ≤ 64 := by rw [HX.out]; have := HCl.out k; omega
        by_cases hlt : k < 64
        · have hml := mem_len k
          go_wp2_with fail
          refine (ofMaskK k _ hlt).mono ?_
          rintro e w5 ⟨A5, c5, rfl, o5, b5⟩
          have y5 := (IL.of_own o5).1
          have B5 := below_step hbel b5
          clear o5 b5 hbel
          go_wp2_with fail
          refine (allM_any _).mono ?_
          rintro e w4 ⟨A4, c4, rfl, o4, b4⟩
          have x4 := il_takeM (IL.of_own o4).1 m
          obtain ⟨g4, rfl, hbg4, hgl4⟩ := own_form o4 (by decide)
          have hc4 : 6 ≤ c4 := by
            rcases o4.2 with ⟨hv, _⟩ | ⟨g, cap, cur, hv, _, _, hnc, _⟩
            · cases hv
            · injection hv with _ _ hcc
              omega
          rw [HTk.out] at x4
          have y4 := y5.below b4
          have B4 := below_step B5 b4
          have hsl : ¬ ((m : Int) < 0) := by omega
          have hsl2 : (m : Int) ≤ (c4 : Int) := by omega
          have hsl3 : m ≤ c4 := by omega
          clear o4 b4 B5 y5 hbg4 hgl4
          go_wp2_with fail
          refine (HSub.out _ _ _ _ _ _ hlt y4 x4).mono ?_
          rintro e w' ⟨he, rfl⟩
          cases hsk : sub k N
          · rw [hsk] at he
            subst he
            have HX2 := Lib.hid (show x = cntQ K N (k + 1) by rw [HCs.out, hsk, HX.out]; rfl)
            clear HX hsk
            go_wp2
            go_roundw
            case rel => exact ⟨k + 1, x, by omega, by go_num, rfl, HX2, B4⟩
            case measure => simp [intOf]; omega
          · rw [hsk] at he
            subst he
            go_wp2_with fail
            refine (HHas.out _ _ _ _ hlt (i3.below B4) y4).mono ?_
            rintro e w7 ⟨he, b7⟩
            have B7 := below_step B4 b7
            clear b7 B4 y4 x4
            cases hq : hasQ K k
            · rw [hq] at he
              subst he
              have HX2 := Lib.hid (show x = cntQ K N (k + 1) by rw [HCs.out, hsk, hq, HX.out]; rfl)
              clear HX hsk hq
              go_wp2
              go_roundw
              case rel => exact ⟨k + 1, x, by omega, by go_num, rfl, HX2, B7⟩
              case measure => simp [intOf]; omega
            · rw [hq] at he
              subst he
              have HX2 := Lib.hid (show x + 1 = cntQ K N (k + 1) by rw [HCs.out, hsk, hq, HX.out]; rfl)
              clear HX hsk hq
              go_wp2
              go_roundw
              case rel => exact ⟨k + 1, x + 1, by omega, by go_num, by go_num, HX2, B7⟩
              case measure => simp [intOf]; omega
        · have hke : k = 64 := by omega
          subst hke
          have hb : (r == (x : Int)) = true := by rw [HR.out, HX.out]; simp
          have B5 := below_step B3 hbel
          have hO := outM_len (expM maj5) (okX maj5)
          have sO := outM_short (expM maj5) (okX maj5)
          have HM := Lib.hid maj5_av
          have HQ := Lib.hid (show ∀ W, Calls Try.prog 30 #[.string ⟨#[51, 40, 49, 44, 50, 44, 51, 44, 52, 44, 53, 41]⟩] W _ from fun W => implOfEx_any maj5 W (by decide))
          generalize expM maj5 = M at *
          generalize okX maj5 = okm at *
          clear HX hbel B3 HRr HR
          go_wp2_with fail
          refine (HQ.out _).mono ?_
          rintro e w6 ⟨A6, c6, rfl, o6, b6⟩
          have i6 := o6.iss
          have B6 := below_step B5 b6
          clear o6 b6 B5 HQ
          generalize outM M okm = G at *
          go_wp2_with fail
          refine (implAv_any _ _ _ _ _ i6 (by omega) sO).mono ?_
          rintro e w7 ⟨he, b7⟩
          rw [HM.out] at he
          subst he
          have B7 := below_step B6 b7
          clear i6 b7 B6 HM
          go_wp2
          go_ret
          exact ⟨rfl, B7⟩
  · have hl2 : (1048576 : Int) < (l.length : Int) := by omega
    go_enter Try.func5, Try.ntmps5
    go_wp2
    go_ret
    exact ⟨rfl, Below.refl _ _⟩
end Go.Proofs.Ytoomaiclbblcdaa
