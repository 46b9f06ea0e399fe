/- The walk of the law that the quorums of an expression are its minimal satisfying sets. -/
import Derived.Test.YtmpcnefmlnkkjaaWSetBg
import Derived.Test.YtmpcnefmlnkkjaaDrawFg
import Derived.Test.YtmpcnefmlnkkjaaWQMing
import Derived.Test.YtmpcnefmlnkkjaaGh
import Derived.Test.YtmpcnefmlnkkjaaPairMg
import Derived.Test.YtmpcnefmlnkkjaaGb
namespace Go.Proofs.Ytmpcnefmlnkkjaa
open Go.RowKit

theorem sat_subE {a b : Nat} (ha : a < 64) (hb : b < 64) (h : sub a b = true) {x : Ex} (hs : sat a x = true) : sat b x = true := by
  refine sat_mono (s := a) (t := b) (fun i hi => ?_) x hs
  rw [sub_and ha hb] at h
  rw [← h, Nat.testBit_and] at hi
  simp at hi
  exact hi.2
theorem outM_six (M : List Nat) (b : Bool) : Short (outM M b) 6 := by
  unfold outM
  split
  · exact mems_short _ _ (by omega)
  · intro l hl; cases hl
theorem satL_up {x : Ex} {m : Nat} (hm : m < 64) : hasQ (satL' x) m = sat m x := by
  rw [Bool.eq_iff_iff, mem_hasQ]
  constructor
  · rintro ⟨q, hq, hs⟩
    obtain ⟨h1, h2⟩ := mem_satL'.1 hq
    exact sat_subE h1 hm hs h2
  · intro h
    exact ⟨m, mem_satL'.2 ⟨hm, h⟩, sub_refl hm⟩
theorem ofex_laws {T : ByteArray} (h : okX T = true) : famOk (outM (expM T) true) = true ∧ 0 < (outM (expM T) true).length ∧ ∀ s, vld s = true → hasQR (outM (expM T) true) s = satX T s := by
  cases hp : pT0 T with
  | none => simp [okX, hp] at h
  | some x =>
    have hw : wf x := (pX_some hp).2.1
    have hM := satL'_msk x
    have h0 : 0 ∉ satL' x := fun h0 => by
      have := (mem_satL'.1 h0).2
      rw [sat_zero x hw] at this
      cases this
    rw [expM_some hp]
    obtain ⟨f1, f2⟩ := out_fam hM h0
    refine ⟨f1, ?_, fun s hs => ?_⟩
    · have e : outM (satL' x) true = mems (mins (satL' x)) := by simp [outM]
      rw [e, mems_len]
      exact List.length_pos_iff.2 (mins_ne hM (mem_satL'.2 ⟨by omega, sat_all x hw⟩))
    · have hs6 := msk_lt hs
      rw [hasQR, f1, hs, hasL_eq (famOk_allV f1) hs, f2 _ hs6, satL_up hs6]
      simp [satX, hp, hs]
theorem minus_v {F : List (List Int)} (h : famOk F = true) {k j : Nat} {l : List Int} {x : Int} (hx : F[k]? = some l) (hj : l[j]? = some x) : vld (both minus l [x]) = true := by
  have hv := famOk_allV h l (List.mem_of_getElem? hx)
  have e := mem_msk hv
  rw [← e] at hj ⊢
  have h6 := msk_lt hv
  rw [minus_one' h6 (List.mem_of_getElem? hj)]
  exact vld_mem (Nat.lt_of_le_of_lt Nat.and_le_left h6)
theorem ofex_less {T : ByteArray} (h : okX T = true) {k j : Nat} {l : List Int} {x : Int} (hx : (outM (expM T) true)[k]? = some l) (hj : l[j]? = some x) : satX T (both minus l [x]) = false ∧ (both minus l [x]).length ≤ 6 := by
  obtain ⟨f1, _, f3⟩ := ofex_laws h
  obtain ⟨q1, q2⟩ := q_less f1 hx hj
  exact ⟨by rw [← f3 _ (minus_v f1 hx hj)]; exact q1, q2⟩
set_option maxRecDepth 100000 in
set_option maxHeartbeats 1600000 in
theorem drawOfExE_any (A : Option Addr) (c : Nat) (l : List Int) (w : World) (ha : BL w A l) (hc : l.length ≤ c) (hm : l.length ≤ maxLen) (hmc : c ≤ maxLen) :
    Calls Try.prog 21 #[.slice A l.length c] w (Text w) := by
  go_enter Try.func21, Try.ntmps21
  go_wp2_with fail
  refine (l6Open_any _ _ _ _ ha hc hm hmc).mono ?_
  rintro e w1 ⟨rfl, hr1, b1⟩
  go_wp2_with fail
  refine (l91Expr_any _ _ _ hr1 (by omega)).mono ?_
  rintro e w2 ⟨t, q, _, ht, rfl, hr2, hq, g2⟩
  have B2 := rd_below b1 g2
  clear b1 g2 hr1 hr2 ha
  go_wp2_with fail
  go_ret
  exact ⟨⟨t, by omega, rfl⟩, B2⟩

set_option maxRecDepth 100000 in
set_option maxHeartbeats 6400000 in
theorem walkOfExL (A B : Option Addr) (c d : Nat) (l m : List Int) (w : World) (ha : BL w A l) (hc : l.length ≤ c) (hmc : c ≤ maxLen) (hd : m.length ≤ d) (hmd : d ≤ maxLen) :
    Calls Try.prog 4 #[.slice A l.length c, .slice B m.length d] w fun e w' => e = .returned (.bool true) ∧ Below w.heap.size w w' := by
  have hm := Nat.le_trans hc hmc
  have hmm := Nat.le_trans hd hmd
  have hm1 := hm
  have hm2 := hmm
  unfold maxLen at hm1 hm2
  by_cases hl : l.length ≤ 1048576
  · by_cases hl2 : m.length ≤ 1048576
    · obtain ⟨ml, hml⟩ : ∃ ml, ml = m.length := ⟨_, rfl⟩
      rw [← hml] at hl2 hm2 ⊢
      clear hml hmm hd hmd
      go_enter Try.func4, Try.ntmps4
      go_wp2_with fail
      refine (drawOfExE_any _ _ _ _ ha hc hm hmc).mono ?_
      rintro e w1 ⟨⟨T, hT1, rfl⟩, B1⟩
      clear ha hm hc hmc
      have hT : T.size ≤ 1048576 := by omega
      have hO := outM_len (expM T) (okX T)
      have sO := outM_short (expM T) (okX T)
      go_wp2_with fail
      refine (specOfEx_any _ _ hT).mono ?_
      rintro e w2 ⟨A2, c2, rfl, OW, b2⟩
      have B2 := below_step B1 b2
      clear B1 b2
      go_wp2_with fail
      refine (implOfEx_any _ _ hT).mono ?_
      rintro e w3 ⟨A3, c3, rfl, OG, b3⟩
      have k3 := (OW.below b3).iss
      have j3 := OG.iss
      have B3 := below_step B2 b3
      clear B2 b3 OW OG
      generalize hok : okX T = ok at *
      cases ok
      · have HB := Lib.hid hok
        clear hok
        go_wp2_with fail
        refine (sameSets_yes _ _ _ _ _ _ j3 k3 (by omega) sO).mono ?_
        rintro e w4 ⟨rfl, d4⟩
        have B4 := below_step B3 d4.below
        have k4 := k3.below d4.below
        have j4 := j3.below d4.below
        clear B3 k3 j3 d4
        go_wp2_with fail
        refine (sameSets_yes _ _ _ _ _ _ j4 k4 (by omega) sO).mono ?_
        rintro e w5 ⟨rfl, d5⟩
        have B5 := below_step B4 d5.below
        clear B4 k4 j4 d5
        go_wp2_with fail
        refine (implValidX _ _ hT).mono ?_
        rw [HB.out]
        rintro e w6 ⟨rfl, b6⟩
        have B6 := below_step B5 b6
        clear B5 b6
        go_wp2
        go_ret
        exact ⟨rfl, B6⟩
      · have HC := Lib.hid (ofex_laws hok)
        have HL := Lib.hid (fun (k j : Nat) (l : List Int) (x : Int) (h1 : (outM (expM T) true)[k]? = some l) (h2 : l[j]? = some x) => ofex_less hok h1 h2)
        clear hok
        go_wp2_with fail
        refine (sameSets_yes _ _ _ _ _ _ j3 k3 (by omega) sO).mono ?_
        rintro e w4 ⟨rfl, d4⟩
        have B4 := below_step B3 d4.below
        have j4 := j3.below d4.below
        clear B3 k3 j3 d4
        have HF := Lib.hid HC.out.2.2
        have HC2 := Lib.hid HC.out.1
        have hHl : (outM (expM T) true).length ≤ 1048576 := by omega
        have hH0 : 0 < (outM (expM T) true).length := HC.out.2.1
        have HSO := Lib.hid (outM_six (expM T) true)
        clear HC
        generalize outM (expM T) true = H at *
        go_wp2
        go_loopw [10] (fun i wr => ∃ k : Nat, k ≤ 4 ∧ i = .int .i64 k ∧ Below w4.heap.size w4 wr) (fun i _ => 4 - (intOf i).toNat)
        case atStart => exact ⟨0, by omega, rfl, Below.refl _ _⟩
        case round =>
          obtain ⟨k, hk, rfl, hbel⟩ := hrel
          by_cases hlt : k < 4
          · have hkn : ml + k * 17 ≤ 2000000 := by omega
            have hkl : IntKind.i64.wrap ((k : Int) * 17) = (k : Int) * 17 := by rw [IntKind.wrap_i64]; omega
            have hkl2 : IntKind.i64.wrap ((ml : Int) + (k : Int) * 17) = ((ml + k * 17 : Nat) : Int) := by rw [IntKind.wrap_i64]; omega
            have hkw : (ml : Int) + (k : Int) * 17 = ((ml + k * 17 : Nat) : Int) := by omega
            obtain ⟨nn, hnn⟩ : ∃ nn, nn = ml + k * 17 := ⟨_, rfl⟩
            rw [← hnn] at hkw hkn hkl2
            have hn64 : nmk nn < 64 := nmk_lt nn
            have hmll := mem_len (nmk nn)
            have HQ := Lib.hid (HF.out _ (vld_mem hn64))
            obtain ⟨t, ht⟩ : ∃ t, t = mem (nmk nn) := ⟨_, rfl⟩
            have htl : t.length ≤ 1048576 := by rw [ht]; omega
            have HS := Lib.hid (setB_any nn)
            rw [← ht] at HS HQ
            clear ht hnn hmll hn64
            go_wp2_with fail
            refine (HS.out _ hkn).mono ?_
            rintro e w8 ⟨A8, c8, rfl, o8, b8⟩
            have u8 := (IL.of_own o8).1
            have hb8 := below_step hbel b8
            clear hbel b8 o8 HS hkw hkl hkl2 hkn
            go_wp2_with fail
            refine (implHasQ_any _ _ _ _ _ _ _ (j4.below hb8) u8 hHl sO htl).mono ?_
            rw [HQ.out]
            rintro e w9 ⟨rfl, b9⟩
            have hb9 := below_step hb8 b9
            have u9 := u8.below b9
            clear hb8 b9 u8 HQ
            go_wp2_with fail
            refine (implSatX _ _ _ _ _ hT u9 htl).mono ?_
            rintro e w10 ⟨rfl, b10⟩
            have hb10 := below_step hb9 b10
            clear hb9 b10 u9
            generalize satX T t = sx at *
            have hxx : (sx != sx) = false := by cases sx <;> rfl
            go_wp2
            go_roundw
            case rel => exact ⟨k + 1, by omega, by go_num, hb10⟩
            case measure => simp [intOf]; omega
          · have j5 := j4.below hbel
            have B5 := below_step B4 hbel
            clear hbel j4 B4
            rename World => w5
            go_wp2
            go_loopw [12] (fun i wz => ∃ k : Nat, k ≤ H.length ∧ i = .int .i64 k ∧ Below w5.heap.size w5 wz) (fun i _ => H.length - (intOf i).toNat)
            case atStart => exact ⟨0, Nat.zero_le _, rfl, Below.refl _ _⟩
            case round =>
              obtain ⟨k, hk, rfl, hbel⟩ := hrel
              by_cases hlt : k < H.length
              · have j6 := j5.below hbel
                obtain ⟨b1, off1, p, P1, d1', e1, hx1, hc1, hil1⟩ := j6.at_ hlt
                subst e1
                have hpl := HSO.out.at_ hx1
                have hki : (0 : Int) ≤ (k : Int) := by omega
                have hki2 : (k : Int) < (H.length : Int) := by omega
                have HX1 := Lib.hid hx1
                have H0 := Lib.hid hbel
                clear hx1 hc1 hil1 j6 hbel
                go_wp2
                go_loopw [13] (fun i wz => ∃ j : Nat, j ≤ p.length ∧ i = .int .i64 j ∧ Below w5.heap.size w5 wz) (fun i _ => p.length - (intOf i).toNat)
                case atStart => exact ⟨0, Nat.zero_le _, rfl, H0.out⟩
                case round =>
                  clear H0
                  obtain ⟨j, hj, rfl, hbel⟩ := hrel
                  have j7 := j5.below hbel
                  obtain ⟨b2, off2, p', P2, d2, e2, hx2, hc2, hil2⟩ := j7.at_ hlt
                  injection e2 with e2
                  injection e2 with e3 e4
                  subst e3 e4
                  obtain rfl : p = p' := by have := HX1.out; rw [this] at hx2; injection hx2
                  clear hx2
                  by_cases hjt : j < p.length
                  · obtain ⟨b3, off3, x, rfl, hx, hcx⟩ := hil2.at_ hjt
                    obtain ⟨hno, hml⟩ := HL.out _ _ _ _ HX1.out hx
                    have hji : (0 : Int) ≤ (j : Int) := by omega
                    have hji2 : (j : Int) < (p.length : Int) := by omega
                    have hb0 : Below wr.heap.size wr (wr.alloc (.cells #[.int .i64 x] 3)).drew := ((Below.refl _ wr).alloc (Nat.le_refl _) _).drew
                    have hn0' : (wr.alloc (.cells #[.int .i64 x] 3)).drew.cell? ⟨wr.heap.size, 0, none⟩ = some (.int .i64 x) := by
                      show (wr.alloc (.cells #[.int .i64 x] 3)).cell? _ = _
                      rw [cell_of_row _ wr.heap.size 0 _ _ (0, 0) (heap_alloc_new wr _)]
                      rfl
                    have hcA : (wr.alloc (.cells #[.int .i64 x] 3)).cell? ⟨b1, off1 + k, none⟩ = some (.slice (some ⟨b3, off3, none⟩) p.length d2) := (World.cell?_of_block (w := wr) (Below.heap_alloc wr _ b1 (World.block_lt_of_cell? wr _ hc2))).trans hc2
                    have hcB : (wr.alloc (.cells #[.int .i64 x] 3)).drew.cell? ⟨b1, off1 + k, none⟩ = some (.slice (some ⟨b3, off3, none⟩) p.length d2) := hcA
                    have HI := Lib.hid (fun (W : World) (hbW : Below wr.heap.size wr W) (hcW : W.cell? ⟨wr.heap.size, 0, none⟩ = some (.int .i64 x)) => implMinus_any (some ⟨b3, off3, none⟩) (some ⟨wr.heap.size, 0, none⟩) d2 1 p [x] W (hil2.below hbW) (il_one' hcW) (by omega) (by simp))
                    have HQ := Lib.hid (fun (W : World) (A6 : Option Addr) (c6 : Nat) (hi : IL W A6 (both minus p [x])) => implSatX T A6 c6 (both minus p [x]) W hT hi (by omega))
                    rw [hno] at HQ
                    clear hx hno
                    generalize both minus p [x] = u at *
                    go_wp2_with fail
                    go_region_law (first
                      | (go_simp; go_at_call 26; refine (HI.out _ hb0 hn0').mono ?_; rintro e w7 ⟨A6, c6, rfl, o6, b6⟩; have B6 : Below wr.heap.size wr w7 := below_step hb0 b6; have i6 := (IL.of_own o6).1)
                      | (go_simp; go_at_call 25; refine (HQ.out _ _ _ i6).mono ?_; rintro e w8 ⟨rfl, b8⟩; have B8 := below_step B6 b8)
                      | fail)
                    all_goals (
                      have R := Lib.hid (below_step hbel B8)
                      clear HI HQ B6 B8 b6 b8 o6 i6 hc2 hcx hil2 hbel hb0 hn0' hcA hcB j7
                      go_wp2
                      go_roundw
                      (case rel => exact ⟨j + 1, by omega, by go_num, R.out⟩)
                      (case measure => simp [intOf]; omega))
                  · go_wp2
                    go_roundw
                    case rel => exact ⟨k + 1, by omega, by go_num, hbel⟩
                    case measure => simp [intOf]; omega
              · have j6 := j5.below hbel
                have B6 := below_step B5 hbel
                clear hbel
                go_wp2_with fail
                refine (implFam_any _ _ _ _ j6 hHl sO).mono ?_
                rw [HC2.out]
                rintro e w8 ⟨rfl, b8⟩
                have B8 := below_step B6 b8
                clear B6 b8
                go_wp2
                go_ret
                exact ⟨by simp <;> omega, B8⟩
    · go_enter Try.func4, Try.ntmps4
      go_wp2_with fail
      go_ret
      exact ⟨rfl, Below.refl _ _⟩
  · go_enter Try.func4, Try.ntmps4
    go_wp2_with fail
    go_ret
    exact ⟨rfl, Below.refl _ _⟩
end Go.Proofs.Ytmpcnefmlnkkjaa
