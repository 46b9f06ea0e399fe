/- The walk of the law that quorums are minimal. -/
import Derived.Test.YtgbijndfpbcjeaaDrawFg
import Derived.Deep.RegionLaw
namespace Go.Proofs.Ytgbijndfpbcjeaa
open Go.RowKit

theorem subs_self (l : List Int) : subs l l = true := by rw [subs_iff]; intro x hx; exact has_mem.2 hx
theorem q_self {F : List (List Int)} (h : famOk F = true) {k : Nat} {l : List Int} (hx : F[k]? = some l) : hasQR F l = true := by
  have hv := famOk_allV h l (List.mem_of_getElem? hx)
  rw [hasQR, h, hv, hasL_mem hx (subs_self l)]
  rfl
theorem minus_one' {m : Nat} (hm : m < 64) {x : Int} (hx : x ∈ mem m) : both minus (mem m) [x] = mem (less m x) := by
  have H : ∀ m : Fin 64, ∀ x ∈ mem m.val, both minus (mem m.val) [x] = mem (less m.val x) := by decide +kernel
  exact H ⟨m, hm⟩ x hx
theorem q_less {F : List (List Int)} (h : famOk F = true) {k j : Nat} {l : List Int} {x : Int} (hx : F[k]? = some l) (hj : l[j]? = some x) : hasQR F (both minus l [x]) = false ∧ (both minus l [x]).length ≤ 6 := by
  have hV := famOk_allV h
  have hv := hV l (List.mem_of_getElem? hx)
  have hs := famOk_sys h
  have hm := msk_lt hv
  have hxm : x ∈ mem (msk l) := by rw [mem_msk hv]; exact List.mem_of_getElem? hj
  have e : both minus l [x] = mem (less (msk l) x) := by
    conv => lhs; rw [← mem_msk hv]
    exact minus_one' hm hxm
  have hl : less (msk l) x < 64 := Nat.lt_of_le_of_lt Nat.and_le_left hm
  rw [e]
  refine ⟨?_, mem_len _⟩
  rw [hasQR, h, vld_mem hl, hasL_eq hV (vld_mem hl), msk_mem hl]
  show hasQ (msks F) (less (msk l) x) = false
  rw [Bool.eq_false_iff]
  intro hh
  obtain ⟨q, hq, hqs⟩ := mem_hasQ.1 hh
  obtain ⟨h1, h2⟩ := less_of (hs.1 q hq) hm hxm hqs
  exact h2 (hs.2.2.1 q hq (msk l) (List.mem_map.2 ⟨l, List.mem_of_getElem? hx, rfl⟩) h1)
theorem il_one' {w : World} {b : Nat} {x : Int} (h : w.cell? ⟨b, 0, none⟩ = some (.int .i64 x)) : IL w (some ⟨b, 0, none⟩) [x] := by
  refine .inr ⟨b, 0, rfl, World.block_lt_of_cell? w _ h, fun j y hy => ?_⟩
  cases j with
  | zero => simp at hy; subst hy; exact h
  | succ j => simp at hy

set_option maxRecDepth 100000 in
set_option maxHeartbeats 6400000 in
theorem walkQMin (A : Option Addr) (c : Nat) (l : List Int) (w : World) (ha : BL w A l) (hc : l.length ≤ c) (hm : l.length ≤ maxLen) (hmc : c ≤ maxLen) :
    Calls Try.prog 6 #[.slice A l.length c] w fun e w' => e = .returned (.bool true) ∧ Below w.heap.size w w' := by
  have hm' := hm
  unfold maxLen at hm'
  by_cases hl : l.length ≤ 1048576
  · go_enter Try.func6, Try.ntmps6
    go_wp2_with fail
    refine (drawHasQ_any _ _ _ _ ha hc hm hmc).mono ?_
    rintro e w1 ⟨F, s, A1, D1, c1, d1, hF, hS, hs7, rfl, i1, t1, B1⟩
    clear ha hm
    have hFl : F.length ≤ 1048576 := by omega
    have hFs : Short F 1048576 := fun x hx => Nat.le_trans (hS x hx) (by omega)
    go_wp2_with fail
    refine (implHasQ_any _ _ _ _ _ _ _ i1 t1 hFl hFs (by omega)).mono ?_
    rintro e w2 ⟨rfl, b2⟩
    have i2 := i1.below b2
    have t2 := t1.below b2
    have B2 := below_step B1 b2
    clear i1 t1 B1 b2
    go_wp2_with fail
    refine (specHasQ_any _ _ _ _ _ _ _ i2 t2 hFl hFs (by omega)).mono ?_
    rintro e w3 ⟨rfl, b3⟩
    have i3 := i2.below b3
    have t3 := t2.below b3
    have B3 := below_step B2 b3
    generalize hqd : hasQR F s = hq at *
    have HQS := Lib.hid hqd
    clear i2 t2 B2 b3 hqd
    have hqq : (hq != hq) = false := by cases hq <;> rfl
    have hqe : (hq == hq) = true := by cases hq <;> rfl
    cases hok : famOk F
    · have HB := Lib.hid hok
      clear hok
      go_wp2_with fail
      refine (specFam_any _ _ _ _ i3 hFl hFs).mono ?_
      rintro e w4 ⟨he, d4⟩
      rw [HB.out] at he
      subst he
      have i4 := i3.below d4.below
      have t4 := t3.below d4.below
      have B4 := below_step B3 d4.below
      clear i3 t3 B3 d4
      go_wp2_with fail
      refine (specHasQ_any _ _ _ _ _ _ _ i4 t4 hFl hFs (by omega)).mono ?_
      rintro e w5 ⟨he, b5⟩
      rw [HQS.out] at he
      subst he
      have B5 := below_step B4 b5
      clear B4 b5 i4 t4
      go_wp2
      go_ret
      exact ⟨rfl, B5⟩
    · have HB := Lib.hid hok
      have HL := Lib.hid (fun (k j : Nat) (l : List Int) (x : Int) (h1 : F[k]? = some l) (h2 : l[j]? = some x) => q_less hok h1 h2)
      have HS := Lib.hid (fun (k : Nat) (l : List Int) (h1 : F[k]? = some l) => q_self hok h1)
      clear hok
      go_wp2_with fail
      refine (specFam_any _ _ _ _ i3 hFl hFs).mono ?_
      rintro e w5 ⟨he, d4⟩
      rw [HB.out] at he
      subst he
      have j5 := i3.below d4.below
      have B5 := below_step B3 d4.below
      clear i3 t3 B3 d4
      go_wp2
      go_loopw [6] (fun i wr => ∃ k : Nat, k ≤ F.length ∧ i = .int .i64 k ∧ Below w5.heap.size w5 wr) (fun i _ => F.length - (intOf i).toNat)
      case atStart => exact ⟨0, Nat.zero_le _, rfl, Below.refl _ _⟩
      case round =>
        obtain ⟨k, hk, rfl, hbel⟩ := hrel
        by_cases hlt : k < F.length
        · have j6 := j5.below hbel
          obtain ⟨b1, off1, p, P1, d1', e1, hx1, hc1, hil1⟩ := j6.at_ hlt
          subst e1
          have hpl := hS.at_ hx1
          have hki : (0 : Int) ≤ (k : Int) := by omega
          have hki2 : (k : Int) < (F.length : Int) := by omega
          have hns := HS.out _ _ hx1
          have HX1 := Lib.hid hx1
          have HNS := Lib.hid hns
          clear hx1 hns
          go_wp2_with fail
          refine (implHasQ_any _ _ _ _ _ _ _ j6 hil1 hFl hFs (by omega)).mono ?_
          rintro e w6 ⟨he, b6⟩
          rw [HNS.out] at he
          subst he
          have H0 := Lib.hid (below_step hbel b6)
          clear hbel b6 hc1 hil1 j6
          go_wp2
          go_loopw [7] (fun i wr => ∃ j : Nat, j ≤ p.length ∧ i = .int .i64 j ∧ Below w5.heap.size w5 wr) (fun i _ => p.length - (intOf i).toNat)
          case atStart => exact ⟨0, Nat.zero_le _, rfl, H0.out⟩
          case round =>
            clear H0
            obtain ⟨j, hj, rfl, hbel⟩ := hrel
            have j7 := j5.below hbel
            obtain ⟨b2, off2, p', P2, d2, e2, hx2, hc2, hil2⟩ := j7.at_ hlt
            injection e2 with e2
            injection e2 with e3 e4
            subst e3 e4
            obtain rfl : p = p' := by have := HX1.out; rw [this] at hx2; injection hx2
            clear hx2
            by_cases hjt : j < p.length
            · obtain ⟨b3, off3, x, rfl, hx, hcx⟩ := hil2.at_ hjt
              obtain ⟨hno, hml⟩ := HL.out _ _ _ _ HX1.out hx
              have hji : (0 : Int) ≤ (j : Int) := by omega
              have hji2 : (j : Int) < (p.length : Int) := by omega
              have hb0 : Below wr.heap.size wr (wr.alloc (.cells #[.int .i64 x] 3)).drew := ((Below.refl _ wr).alloc (Nat.le_refl _) _).drew
              have hn0' : (wr.alloc (.cells #[.int .i64 x] 3)).drew.cell? ⟨wr.heap.size, 0, none⟩ = some (.int .i64 x) := by
                show (wr.alloc (.cells #[.int .i64 x] 3)).cell? _ = _
                rw [cell_of_row _ wr.heap.size 0 _ _ (0, 0) (heap_alloc_new wr _)]
                rfl
              have hcA : (wr.alloc (.cells #[.int .i64 x] 3)).cell? ⟨b1, off1 + k, none⟩ = some (.slice (some ⟨b3, off3, none⟩) p.length d2) := (World.cell?_of_block (w := wr) (Below.heap_alloc wr _ b1 (World.block_lt_of_cell? wr _ hc2))).trans hc2
              have hcB : (wr.alloc (.cells #[.int .i64 x] 3)).drew.cell? ⟨b1, off1 + k, none⟩ = some (.slice (some ⟨b3, off3, none⟩) p.length d2) := hcA
              have HI := Lib.hid (fun (W : World) (hbW : Below wr.heap.size wr W) (hcW : W.cell? ⟨wr.heap.size, 0, none⟩ = some (.int .i64 x)) => implMinus_any (some ⟨b3, off3, none⟩) (some ⟨wr.heap.size, 0, none⟩) d2 1 p [x] W (hil2.below hbW) (il_one' hcW) (by omega) (by simp))
              have HQ := Lib.hid (fun (W : World) (hbW : Below wr.heap.size wr W) (A6 : Option Addr) (c6 : Nat) (hi : IL W A6 (both minus p [x])) => implHasQ_any (some ⟨b1, off1, none⟩) A6 c1 c6 F (both minus p [x]) W (j7.below hbW) hi hFl hFs (by omega))
              rw [hno] at HQ
              clear hx hno
              generalize both minus p [x] = u at *
              go_wp2_with fail
              go_region_law (first
                | (go_simp; go_at_call 30; refine (HI.out _ hb0 hn0').mono ?_; rintro e w7 ⟨A6, c6, rfl, o6, b6⟩; have B6 : Below wr.heap.size wr w7 := below_step hb0 b6; have i6 := (IL.of_own o6).1)
                | (go_simp; go_at_call 27; refine (HQ.out _ B6 _ _ i6).mono ?_; rintro e w8 ⟨rfl, b8⟩; have B8 := below_step B6 b8)
                | fail)
              all_goals (
                have R := Lib.hid (below_step hbel B8)
                clear HI HQ B6 B8 b6 b8 o6 i6 hc2 hcx hil2 hbel hb0 hn0' hcA hcB j7
                go_wp2
                go_roundw
                (case rel => exact ⟨j + 1, by omega, by go_num, R.out⟩)
                (case measure => simp [intOf]; omega))
            · go_wp2
              go_roundw
              case rel => exact ⟨k + 1, by omega, by go_num, hbel⟩
              case measure => simp [intOf]; omega
        · go_wp2
          go_ret
          exact ⟨rfl, below_step B5 hbel⟩
  · go_enter Try.func6, Try.ntmps6
    go_wp2
    go_ret
    exact ⟨rfl, Below.refl _ _⟩
end Go.Proofs.Ytgbijndfpbcjeaa
