/- The walk of the law that weighted quorums are tight. -/
import Derived.Test.YtgbijndfpbcjeaaWMaj
namespace Go.Proofs.Ytgbijndfpbcjeaa
open Go.RowKit

theorem minus_one {m : Nat} (hm : m < 64) {x : Int} (hx : x ∈ mem m) : both minus (mem m) [x] = mem (less m x) := by
  have H : ∀ m : Fin 64, ∀ x ∈ mem m.val, both minus (mem m.val) [x] = mem (less m.val x) := by decide +kernel
  exact H ⟨m, hm⟩ x hx
theorem tight_at {v : List Int} {n : Int} (hv : wfOk v n = true) {j k : Nat} {a : List Int} {x : Int} (ha : (mems (mins (enoL v n)))[j]? = some a) (hx : a[k]? = some x) :
    sumR v (both minus a [x]) < n ∧ 1 ≤ x ∧ x ≤ 6 ∧ (both minus a [x]).length ≤ 6 ∧ ∃ y, v[x.toNat - 1]? = some y ∧ y ≠ 0 := by
  obtain ⟨m, hm, rfl⟩ := mems_at ha
  have hw : wOk v = true := by simp only [wfOk, Bool.and_eq_true] at hv; exact hv.1.1
  have hm6 := mins_lt _ m hm
  have hxm := List.mem_of_getElem? hx
  obtain ⟨_, h2, h3⟩ := eno_tight hm hxm
  have hl6 : less m x < 64 := Nat.lt_of_le_of_lt Nat.and_le_left hm6
  rw [minus_one hm6 hxm]
  refine ⟨?_, (vld_at (vld_mem hm6) hx).1, (vld_at (vld_mem hm6) hx).2, mem_len _, ?_⟩
  · rw [sumR, if_pos ⟨hw, vld_mem hl6⟩]
    exact h2
  · cases hy : v[x.toNat - 1]? with
    | none => exact absurd (vt_none (List.getElem?_eq_none_iff.1 hy)) h3
    | some y => exact ⟨y, rfl, by have : wat v x = y := vt_some hy; rw [← this]; exact h3⟩
theorem enough_at {v : List Int} {n : Int} (hv : wfOk v n = true) {j : Nat} {a : List Int} (ha : (mems (mins (enoL v n)))[j]? = some a) : n ≤ sumR v a := by
  obtain ⟨m, hm, rfl⟩ := mems_at ha
  have hw : wOk v = true := by simp only [wfOk, Bool.and_eq_true] at hv; exact hv.1.1
  have hm6 := mins_lt _ m hm
  rw [sumR, if_pos ⟨hw, vld_mem hm6⟩]
  exact (mem_enoL.1 ((mem_mins (enoL_msk v n)).1 hm).1).2
theorem il_one {w : World} {b : Nat} {x : Int} (h : w.cell? ⟨b, 0, none⟩ = some (.int .i64 x)) : IL w (some ⟨b, 0, none⟩) [x] := by
  refine .inr ⟨b, 0, rfl, World.block_lt_of_cell? w _ h, fun j y hy => ?_⟩
  cases j with
  | zero => simp at hy; subst hy; exact h
  | succ j => simp at hy

set_option maxRecDepth 100000 in
set_option maxHeartbeats 6400000 in
theorem walkTight (A : Option Addr) (c : Nat) (l : List Int) (w : World) (ha : BL w A l) (hc : l.length ≤ c) (hm : l.length ≤ maxLen) (hmc : c ≤ maxLen) :
    Calls Try.prog 8 #[.slice A l.length c] w fun e w' => e = .returned (.bool true) ∧ Below w.heap.size w w' := by
  have hm' := hm
  unfold maxLen at hm'
  by_cases hl : l.length ≤ 1048576
  · go_enter Try.func8, Try.ntmps8
    go_wp2_with fail
    refine (drawWFam_any _ _ _ _ ha hc hm hmc).mono ?_
    rintro e w1 ⟨v, n, A1, c1, hv7, hn0, hn1, rfl, i1, B1⟩
    clear ha hm
    have hvl : v.length ≤ 1048576 := by omega
    have hO := outM_len (enoL v n) (wfOk v n)
    have sO := outM_short (enoL v n) (wfOk v n)
    go_wp2_with fail
    refine (specWFam_any _ _ _ _ _ i1 hvl).mono ?_
    rintro e w2 ⟨A2, c2, rfl, OW, b2⟩
    have i2 := i1.below b2
    have B2 := below_step B1 b2
    clear i1 B1 b2
    go_wp2_with fail
    refine (implWFam_any _ _ _ _ _ i2 hvl).mono ?_
    rintro e w3 ⟨A3, c3, rfl, OG, b3⟩
    have i3 := (OW.below b3).iss
    have j3 := OG.iss
    have k3 := i2.below b3
    have B3 := below_step B2 b3
    clear i2 B2 b3 OW OG
    generalize hok : wfOk v n = ok at *
    have HB := Lib.hid hok
    clear hok
    cases ok
    · clear HB
      go_wp2_with fail
      refine (sameSets_yes _ _ _ _ _ _ j3 i3 (by omega) sO).mono ?_
      rintro e w4 ⟨rfl, d4⟩
      have B4 := below_step B3 d4.below
      have i4 := i3.below d4.below
      have j4 := j3.below d4.below
      clear B3 i3 j3 d4
      go_wp2_with fail
      refine (sameSets_yes _ _ _ _ _ _ j4 i4 (by omega) sO).mono ?_
      rintro e w5 ⟨rfl, d5⟩
      have B5 := below_step B4 d5.below
      clear B4 i4 j4 d5
      go_wp2
      go_ret
      exact ⟨rfl, B5⟩
    · go_wp2_with fail
      refine (sameSets_yes _ _ _ _ _ _ j3 i3 (by omega) sO).mono ?_
      rintro e w5 ⟨rfl, d4⟩
      have B5 := below_step B3 d4.below
      have j5 := j3.below d4.below
      have k5 := k3.below d4.below
      clear B3 i3 j3 d4 k3
      have HL := Lib.hid (fun (j k : Nat) (a : List Int) (x : Int) (h1 : (mems (mins (enoL v n)))[j]? = some a) (h2 : a[k]? = some x) => tight_at HB.out h1 h2)
      have HN := Lib.hid (fun (j : Nat) (a : List Int) (h1 : (mems (mins (enoL v n)))[j]? = some a) => enough_at HB.out h1)
      have hF : outM (enoL v n) true = mems (mins (enoL v n)) := outM_true rfl
      rw [hF] at hO sO j5 ⊢
      have sh := mems_short (mins (enoL v n)) 6 (Nat.le_refl _)
      clear hF HB
      generalize mems (mins (enoL v n)) = F at *
      go_wp2
      go_loopw [9] (fun i wr => ∃ k : Nat, k ≤ F.length ∧ i = .int .i64 k ∧ Below w5.heap.size w5 wr) (fun i _ => F.length - (intOf i).toNat)
      case atStart => exact ⟨0, Nat.zero_le _, rfl, Below.refl _ _⟩
      case round =>
        obtain ⟨k, hk, rfl, hbel⟩ := hrel
        by_cases hlt : k < F.length
        · obtain ⟨b1, off1, p, P1, d1, rfl, hx1, hc1, hil1⟩ := (j5.below hbel).at_ hlt
          have hpl := sh.at_ hx1
          have hki : (0 : Int) ≤ (k : Int) := by omega
          have hki2 : (k : Int) < (F.length : Int) := by omega
          have hns := HN.out _ _ hx1
          have HX1 := Lib.hid hx1
          have hvw := k5.below hbel
          have hd0 : decide (sumR v p < n) = false := decide_eq_false (by omega)
          clear hx1
          go_wp2_with fail
          refine (implWSum_any _ _ _ _ _ _ _ hvw hil1 hvl (by omega)).mono ?_
          rintro e w6 ⟨rfl, b6⟩
          have H0 := Lib.hid (below_step hbel b6)
          generalize sumR v p = sp at *
          clear hbel b6 hvw hc1 hil1
          go_wp2
          go_loopw [10] (fun i wr => ∃ j : Nat, j ≤ p.length ∧ i = .int .i64 j ∧ Below w5.heap.size w5 wr) (fun i _ => p.length - (intOf i).toNat)
          case atStart => exact ⟨0, Nat.zero_le _, rfl, H0.out⟩
          case round =>
            clear H0
            obtain ⟨j, hj, rfl, hbel⟩ := hrel
            obtain ⟨b2, off2, p', P2, d2, e2, hx2, hc2, hil2⟩ := (j5.below hbel).at_ hlt
            injection e2 with e2
            injection e2 with e3 e4
            subst e3 e4
            obtain rfl : p = p' := by have := HX1.out; rw [this] at hx2; injection hx2
            clear hx2
            by_cases hjt : j < p.length
            · obtain ⟨b3, off3, x, rfl, hx, hcx⟩ := hil2.at_ hjt
              obtain ⟨hsum, hx1, hx6, hml, y, hy, hy0⟩ := HL.out _ _ _ _ HX1.out hx
              have hvw := k5.below hbel
              have hxl : x.toNat - 1 < v.length := (List.getElem?_eq_some_iff.1 hy).1
              obtain ⟨b4, off4, y', e5, hy', hcy⟩ := hvw.at_ hxl
              obtain rfl : y = y' := by rw [hy] at hy'; injection hy'
              subst e5
              have hji : (0 : Int) ≤ (j : Int) := by omega
              have hji2 : (j : Int) < (p.length : Int) := by omega
              have hxi1 : (x - 1).toNat = x.toNat - 1 := by omega
              have hxi2 : (0 : Int) ≤ x - 1 := by omega
              have hxw : IntKind.i64.wrap (x - 1) = x - 1 := by rw [IntKind.wrap_i64]; omega
              have hxi3 : x - 1 < (v.length : Int) := by omega
              have hyb : (y == 0) = false := beq_eq_false_iff_ne.2 hy0
              have hd1 : decide (n ≤ sumR v (both minus p [x])) = false := decide_eq_false (by omega)
              have hb0 : Below wr.heap.size wr (wr.alloc (.cells #[.int .i64 x] 3)).drew := ((Below.refl _ wr).alloc (Nat.le_refl _) _).drew
              have hn0' : (wr.alloc (.cells #[.int .i64 x] 3)).drew.cell? ⟨wr.heap.size, 0, none⟩ = some (.int .i64 x) := by
                show (wr.alloc (.cells #[.int .i64 x] 3)).cell? _ = _
                rw [cell_of_row _ wr.heap.size 0 _ _ (0, 0) (heap_alloc_new wr _)]
                rfl
              have hcA : (wr.alloc (.cells #[.int .i64 x] 3)).cell? ⟨b1, off1 + k, none⟩ = some (.slice (some ⟨b3, off3, none⟩) p.length d2) := (World.cell?_of_block (w := wr) (Below.heap_alloc wr _ b1 (World.block_lt_of_cell? wr _ hc2))).trans hc2
              have hcB : (wr.alloc (.cells #[.int .i64 x] 3)).drew.cell? ⟨b1, off1 + k, none⟩ = some (.slice (some ⟨b3, off3, none⟩) p.length d2) := hcA
              have HI := Lib.hid (fun (W : World) (hbW : Below wr.heap.size wr W) (hcW : W.cell? ⟨wr.heap.size, 0, none⟩ = some (.int .i64 x)) => implMinus_any (some ⟨b3, off3, none⟩) (some ⟨wr.heap.size, 0, none⟩) d2 1 p [x] W (hil2.below hbW) (il_one hcW) (by omega) (by simp))
              have HS := Lib.hid (fun (W : World) (hbW : Below wr.heap.size wr W) (A6 : Option Addr) (c6 : Nat) (hi : IL W A6 (both minus p [x])) => implWSum_any (some ⟨b4, off4, none⟩) A6 c1 c6 v (both minus p [x]) W (hvw.below hbW) hi hvl (by omega))
              have HCK := Lib.hid (fun (W : World) (hbW : Below wr.heap.size wr W) => (⟨(hbW.cell (p := ⟨b1, off1 + k, none⟩) (World.block_lt_of_cell? wr _ hc2)).trans hc2, (hbW.cell (p := ⟨b3, off3 + j, none⟩) (World.block_lt_of_cell? wr _ hcx)).trans hcx, (hbW.cell (p := ⟨b4, off4 + (x.toNat - 1), none⟩) (World.block_lt_of_cell? wr _ hcy)).trans hcy⟩ : _ ∧ _ ∧ _))
              clear hx hy hy' hy0 hsum
              generalize sumR v (both minus p [x]) = sm at *
              generalize both minus p [x] = u at *
              go_wp2_with fail
              go_region_law (first
                | (go_simp; go_at_call 30; refine (HI.out _ hb0 hn0').mono ?_; rintro e w7 ⟨A6, c6, rfl, o6, b6⟩; have B6 : Below wr.heap.size wr w7 := below_step hb0 b6; have i6 := (IL.of_own o6).1)
                | (go_simp; go_at_call 36; refine (HS.out _ B6 _ _ i6).mono ?_; rintro e w8 ⟨rfl, b8⟩; have B8 := below_step B6 b8; obtain ⟨r1, r2, r3⟩ := HCK.out _ B8)
                | fail)
              all_goals (
                have R := Lib.hid (below_step hbel B8)
                clear HI HS HCK B6 B8 b6 b8 o6 i6 hc2 hcx hcy hil2 hbel r1 r2 r3 hb0 hn0' hvw hcA hcB
                go_wp2
                go_roundw
                (case rel => exact ⟨j + 1, by omega, by go_num, R.out⟩)
                (case measure => simp [intOf]; omega))
            · go_wp2
              go_roundw
              case rel => exact ⟨k + 1, by omega, by go_num, hbel⟩
              case measure => simp [intOf]; omega
        · go_wp2
          go_ret
          exact ⟨rfl, below_step B5 hbel⟩
  · go_enter Try.func8, Try.ntmps8
    go_wp2
    go_ret
    exact ⟨rfl, Below.refl _ _⟩
end Go.Proofs.Ytgbijndfpbcjeaa
