/- Laws on compound expressions: members of the parts; disjunction and conjunction. -/
import Derived.Test.YtlmlplbpebfkbaaLaw3
namespace Go.Proofs.Ytlmlplbpebfkbaa
open Go.RowKit

theorem cut_at (r : Nat) (h : r < 6) (w : World) : (Instr.slice 9 (.string ⟨#[49, 50, 51, 52, 53, 54]⟩) (some (.int .i64 (r : Int))) (some (.int .i64 (1 + (r : Int)))) none).run Try.prog w = .ok (.string ⟨#[dg (r + 1)]⟩) w := by
  rw [show 1 + (r : Int) = (r : Int) + 1 by omega]; exact digits_cut r h w
theorem cut_at2 (r : Nat) (h : r < 6) (w : World) : (Instr.slice 9 (.string ⟨#[49, 50, 51, 52, 53, 54]⟩) (some (.int .i64 (1 + (r : Int) - 1))) (some (.int .i64 (1 + (r : Int)))) none).run Try.prog w = .ok (.string ⟨#[dg (r + 1)]⟩) w := by
  rw [show 1 + (r : Int) - 1 = (r : Int) by omega]; exact cut_at r h w
theorem one_mem {r : Nat} (h : r < 6) : [1 + (r : Int)] = mem (2 ^ r) := by
  have := mem_one (m := r + 1) (by omega) (by omega)
  rw [show r + 1 - 1 = r by omega] at this
  rw [this]
  congr 1
  omega
theorem pw_lt {r : Nat} (h : r < 6) : 2 ^ r < 64 := by have := pow_lt (m := r + 1) (by omega); simpa using this
theorem parts_mem {T : ByteArray} {x : Ex} {r : Nat} (h : pT0 T = some x) (hr : r < 6) (hl : T.size + 5 ≤ 40) :
    memX (⟨#[49, 40]⟩ ++ T ++ ⟨#[44]⟩ ++ ⟨#[dg (r + 1)]⟩ ++ ⟨#[41]⟩) = both union (memX T) [1 + (r : Int)] := by
  have hp := pairT (k := 1) (m := r + 1) h (by omega) (by omega) (by omega) (by omega) hl
  rw [show dg 1 = 49 by decide] at hp
  have hw := (pT0_tx h).2
  have hlt := ms_lt x hw
  have e1 : memX T = mem (ms x) := by simp [memX, h]
  rw [e1, one_mem hr, both_t (vld_mem hlt) (vld_mem (pw_lt hr)), mem_or hlt (pw_lt hr)]
  simp only [memX, hp, ms, msL]
  rw [show r + 1 - 1 = r by omega, Nat.or_zero]
theorem pair_sat (s k : Nat) (a b : Ex) : sat s (.thr k [a, b]) = decide (k ≤ (if sat s a = true then 1 else 0) + (if sat s b = true then 1 else 0)) := by
  have e : satL s [a, b] = (if sat s a = true then 1 else 0) + (if sat s b = true then 1 else 0) := by rw [satL, satL, satL, Nat.add_zero]
  rw [sat, e]
theorem or_sat {T : ByteArray} {x : Ex} {r : Nat} {s : List Int} (h : pT0 T = some x) (hr : r < 6) (hl : T.size + 5 ≤ 40) (hv : vld s = true) :
    satX (⟨#[49, 40]⟩ ++ T ++ ⟨#[44]⟩ ++ ⟨#[dg (r + 1)]⟩ ++ ⟨#[41]⟩) s = (satX T s || hasR s (1 + (r : Int))) ∧
      satX (⟨#[50, 40]⟩ ++ T ++ ⟨#[44]⟩ ++ ⟨#[dg (r + 1)]⟩ ++ ⟨#[41]⟩) s = (satX T s && hasR s (1 + (r : Int))) := by
  have hp := pairT (k := 1) (m := r + 1) h (by omega) (by omega) (by omega) (by omega) hl
  have hq := pairT (k := 2) (m := r + 1) h (by omega) (by omega) (by omega) (by omega) hl
  rw [show dg 1 = 49 by decide] at hp
  rw [show dg 2 = 50 by decide] at hq
  have hb : hasR s (1 + (r : Int)) = Nat.testBit (msk s) r := by
    have := has_mem_bit (s := msk s) (m := r + 1) (msk_lt hv) (by omega) (by omega)
    rw [mem_msk hv, show ((r + 1 : Nat) : Int) = 1 + (r : Int) by omega, show r + 1 - 1 = r by omega] at this
    simp only [hasR, hv, Bool.true_and, this]
  rw [hb]
  have em : sat (msk s) (.mem (r + 1)) = Nat.testBit (msk s) r := by simp [sat]
  simp only [satX, hp, hq, h, hv, Bool.true_and]
  rw [pair_sat, pair_sat, em]
  generalize sat (msk s) x = a
  generalize Nat.testBit (msk s) r = b
  revert a b
  decide
theorem il_one (w : World) (x : Int) : IL (w.alloc (.cells #[.int .i64 x] 3)) (some ⟨w.heap.size, 0, none⟩) [x] := by
  refine .inr ⟨w.heap.size, 0, rfl, by simp, fun j y hy => ?_⟩
  cases j with
  | zero => simp at hy; subst hy; rw [cell_of_row _ w.heap.size 0 _ _ (0, 0) (heap_alloc_new w _)]; rfl
  | succ j => simp at hy

set_option maxRecDepth 100000 in
set_option maxHeartbeats 3200000 in
theorem walkParts (A B : Option Addr) (c d : Nat) (l m : List Int) (w : World) (ha : BL w A l) (hc : l.length ≤ c) (hmc : c ≤ maxLen) (hd : m.length ≤ d) (hmd : d ≤ maxLen) :
    Calls Try.prog 10 #[.slice A l.length c, .slice B m.length d] w fun e w' => e = .returned (.bool true) ∧ Below w.heap.size w w' := by
  have hm := Nat.le_trans hc hmc
  have hmm := Nat.le_trans hd hmd
  have hm1 := hm
  have hm2 := hmm
  unfold maxLen at hm1 hm2
  by_cases hl : l.length ≤ 1048576
  · by_cases hl2 : m.length ≤ 1048576
    · obtain ⟨ml, hml⟩ : ∃ ml, ml = m.length := ⟨_, rfl⟩
      rw [← hml] at hl2 hm2 ⊢
      clear hml hmm hd hmd
      go_enter Try.func10, Try.ntmps10
      go_wp2_with fail
      refine (drawMembers_any _ _ _ _ ha hc hm hmc).mono ?_
      rintro e w1 ⟨⟨T, hT, rfl⟩, B1⟩
      clear ha hm hc hmc
      have hT2 : T.size ≤ 1048576 := by omega
      have hMl : (memX T).length ≤ 1048576 := by have := memX_len T; omega
      go_wp2_with fail
      refine (implMembersX T _ hT2).mono ?_
      rintro e w2 ⟨A2, c2, rfl, o2, b2⟩
      have B2 := below_step B1 b2
      have i2 := (IL.of_own o2).1
      clear B1 b2 o2
      go_wp2_with fail
      refine (specMembersX T _ hT2).mono ?_
      rintro e w3 ⟨A3, c3, rfl, o3, b3⟩
      have B3 := below_step B2 b3
      have i2 := i2.below b3
      have i3 := (IL.of_own o3).1
      clear B2 b3 o3
      go_wp2_with fail
      refine (sameInts_yes _ _ _ _ _ _ i2 i3 hMl).mono ?_
      rintro e w4 ⟨rfl, b4⟩
      have B4 := below_step B3 b4
      have i2 := i2.below b4
      clear B3 b4 i3
      cases hp : pT0 T with
      | none =>
        have hok := ok_no hp
        clear hp
        go_wp2_with (go_at_call 23; refine (vS T _ _ hok hT2).mono ?_; rintro e w' ⟨rfl, rfl⟩)
        refine (specMembersX T _ hT2).mono ?_
        rintro e w5 ⟨A5, c5, rfl, o5, b5⟩
        have B5 := below_step B4 b5
        have i2 := i2.below b5
        have i5 := (IL.of_own o5).1
        clear B4 b5 o5
        go_wp2_with fail
        refine (sameInts_yes _ _ _ _ _ _ i2 i5 hMl).mono ?_
        rintro e w6 ⟨rfl, b6⟩
        have B6 := below_step B5 b6
        clear B5 b6 i5 i2
        go_wp2_with fail
        go_ret
        exact ⟨rfl, B6⟩
      | some x =>
        have hok := ok_yes hp
        by_cases h5 : T.size + 5 ≤ 40
        · have h40 := pT0_40 hp
          obtain ⟨r, hr⟩ : ∃ r, r = ml % 6 := ⟨_, rfl⟩
          have hr6 : r < 6 := by rw [hr]; exact Nat.mod_lt _ (by omega)
          have e1 : (ml : Int).tmod 6 = (r : Int) := by rw [Int.tmod_eq_emod_of_nonneg (by omega), hr]; simp
          have e2 : (ml : Int) % 6 = (r : Int) := by rw [hr]; simp
          have hcut := cut_at r hr6
          have hcut2 := cut_at2 r hr6
          have P1 := Lib.hid (parts_mem hp hr6 h5)
          have hul : (both union (memX T) [1 + (r : Int)]).length ≤ 1048576 := bigU _ _
          have S1 := Lib.hid (show (⟨#[49, 40]⟩ ++ T ++ ⟨#[44]⟩ ++ ⟨#[dg (r + 1)]⟩ ++ ⟨#[41]⟩ : ByteArray).size ≤ 1048576 by simp only [ByteArray.size_append]; show 2 + T.size + 1 + 1 + 1 ≤ _; omega)
          clear hp hr
          generalize hM : (⟨#[dg (r + 1)]⟩ : ByteArray) = M at *
          have hMs : M.size = 1 := by rw [← hM]; rfl
          clear hM
          generalize memX T = L at *
          go_wp2_with (go_at_call 23; refine (vS T _ _ hok hT2).mono ?_; rintro e w' ⟨rfl, rfl⟩)
          refine (mX _ _ _ P1.out S1.out).mono ?_
          rintro e w5 ⟨A5, c5, rfl, o5, b5⟩
          have B5 := below_step B4 b5
          have i2 := i2.below b5
          have i5 := (IL.of_own o5).1
          clear B4 b5 o5
          have hnew := (Below.refl w5.heap.size w5).alloc (Nat.le_refl _) (.cells #[.int .i64 (1 + (r : Int))] 3)
          have i6 := il_one w5 (1 + (r : Int))
          have B6 := below_step B5 hnew
          have i2 := i2.below hnew
          have i5 := i5.below hnew
          clear hnew B5
          go_wp2_with fail
          refine (implUnion_any A2 (some ⟨w5.heap.size, 0, none⟩) c2 1 L [1 + (r : Int)] _ i2 i6 hMl (by simp)).mono ?_
          rintro e w7 ⟨A7, c7, rfl, o7, b7⟩
          have B7 := below_step B6 b7
          have i5 := i5.below b7
          have i7 := (IL.of_own o7).1
          clear B6 b7 o7 i2 i6
          go_wp2_with fail
          refine (sameInts_yes _ _ _ _ _ _ i5 i7 hul).mono ?_
          rintro e w8 ⟨rfl, b8⟩
          have B8 := below_step B7 b8
          clear B7 b8 i5 i7
          go_wp2_with fail
          go_ret
          exact ⟨rfl, B8⟩
        · clear hp
          go_wp2_with (go_at_call 23; refine (vS T _ _ hok hT2).mono ?_; rintro e w' ⟨rfl, rfl⟩)
          refine (specMembersX T _ hT2).mono ?_
          rintro e w5 ⟨A5, c5, rfl, o5, b5⟩
          have B5 := below_step B4 b5
          have i2 := i2.below b5
          have i5 := (IL.of_own o5).1
          clear B4 b5 o5
          go_wp2_with fail
          refine (sameInts_yes _ _ _ _ _ _ i2 i5 hMl).mono ?_
          rintro e w6 ⟨rfl, b6⟩
          have B6 := below_step B5 b6
          clear B5 b6 i5 i2
          go_wp2_with fail
          go_ret
          exact ⟨rfl, B6⟩
    · go_enter Try.func10, Try.ntmps10
      go_wp2_with fail
      go_ret
      exact ⟨rfl, Below.refl _ _⟩
  · go_enter Try.func10, Try.ntmps10
    go_wp2_with fail
    go_ret
    exact ⟨rfl, Below.refl _ _⟩

set_option maxRecDepth 100000 in
set_option maxHeartbeats 3200000 in
theorem walkOr (A B : Option Addr) (c d : Nat) (l m : List Int) (w : World) (ha : BL w A l) (hc : l.length ≤ c) (hmc : c ≤ maxLen) (hd : m.length ≤ d) (hmd : d ≤ maxLen) :
    Calls Try.prog 9 #[.slice A l.length c, .slice B m.length d] w fun e w' => e = .returned (.bool true) ∧ Below w.heap.size w w' := by
  have hm := Nat.le_trans hc hmc
  have hmm := Nat.le_trans hd hmd
  have hm1 := hm
  have hm2 := hmm
  unfold maxLen at hm1 hm2
  by_cases hl : l.length ≤ 1048576
  · by_cases hl2 : m.length ≤ 1048576
    · obtain ⟨ml, hml⟩ : ∃ ml, ml = m.length := ⟨_, rfl⟩
      rw [← hml] at hl2 hm2 ⊢
      clear hml hmm hd hmd
      go_enter Try.func9, Try.ntmps9
      go_wp2_with fail
      refine (drawSat_any _ _ _ _ ha hc hm hmc).mono ?_
      rintro e w1 ⟨⟨T, s, AS, cS, hT, hs, rfl, iS⟩, B1⟩
      clear ha hm hc hmc
      have hT2 : T.size ≤ 1048576 := by omega
      have hs2 : s.length ≤ 1048576 := by omega
      obtain ⟨R, hR⟩ : ∃ R, satX T s = R := ⟨_, rfl⟩
      have hRR : (R != R) = false := by simp
      have hRE : (R == R) = true := by simp
      go_wp2_with fail
      refine (sI T _ _ _ _ _ hR hT2 iS hs2).mono ?_
      rintro e w2 ⟨rfl, b2⟩
      have B2 := below_step B1 b2
      have iS := iS.below b2
      clear B1 b2
      go_wp2_with fail
      refine (sS T _ _ _ _ _ hR hT2 iS hs2).mono ?_
      rintro e w3 ⟨rfl, b3⟩
      have B3 := below_step B2 b3
      have iS := iS.below b3
      clear B2 b3
      cases hp : pT0 T with
      | none =>
        have hok := ok_no hp
        clear hp
        go_wp2_with (go_at_call 23; refine (vS T _ _ hok hT2).mono ?_; rintro e w' ⟨rfl, rfl⟩)
        refine (sS T _ _ _ _ _ hR hT2 iS hs2).mono ?_
        rintro e w4 ⟨rfl, b4⟩
        have B4 := below_step B3 b4
        clear B3 b4 hR
        go_wp2_with fail
        go_ret
        exact ⟨rfl, B4⟩
      | some x =>
        have hok := ok_yes hp
        cases hv : vld s with
        | false =>
          clear hp
          go_wp2_with (go_at_call 23; refine (vS T _ _ hok hT2).mono ?_; rintro e w' ⟨rfl, rfl⟩)
          refine (specValid_f _ _ _ _ iS hs2 hv).mono ?_
          rintro e w4 ⟨rfl, b4⟩
          have B4 := below_step B3 b4
          have iS := iS.below b4
          clear B3 b4 hv
          go_wp2_with fail
          refine (sS T _ _ _ _ _ hR hT2 iS hs2).mono ?_
          rintro e w5 ⟨rfl, b5⟩
          have B5 := below_step B4 b5
          clear B4 b5 hR
          go_wp2_with fail
          go_ret
          exact ⟨rfl, B5⟩
        | true =>
          by_cases h5 : T.size + 5 ≤ 40
          · have h40 := pT0_40 hp
            obtain ⟨r, hr⟩ : ∃ r, r = ml % 6 := ⟨_, rfl⟩
            have hr6 : r < 6 := by rw [hr]; exact Nat.mod_lt _ (by omega)
            have e1 : (ml : Int).tmod 6 = (r : Int) := by rw [Int.tmod_eq_emod_of_nonneg (by omega), hr]; simp
            have e2 : (ml : Int) % 6 = (r : Int) := by rw [hr]; simp
            have hcut := cut_at r hr6
            have hcut2 := cut_at2 r hr6
            obtain ⟨p1, p2⟩ := or_sat (s := s) hp hr6 h5 hv
            rw [hR] at p1 p2
            obtain ⟨h, hh⟩ : ∃ h, hasR s (1 + (r : Int)) = h := ⟨_, rfl⟩
            have HC := Lib.hid (fun (W : World) (i : IL W AS s) => implContains_any AS cS s (1 + (r : Int)) W i hs2)
            rw [hh] at p1 p2 HC
            have P1 := Lib.hid p1
            have P2 := Lib.hid p2
            have S1 := Lib.hid (show (⟨#[49, 40]⟩ ++ T ++ ⟨#[44]⟩ ++ ⟨#[dg (r + 1)]⟩ ++ ⟨#[41]⟩ : ByteArray).size ≤ 1048576 by simp only [ByteArray.size_append]; show 2 + T.size + 1 + 1 + 1 ≤ _; omega)
            have S2 := Lib.hid (show (⟨#[50, 40]⟩ ++ T ++ ⟨#[44]⟩ ++ ⟨#[dg (r + 1)]⟩ ++ ⟨#[41]⟩ : ByteArray).size ≤ 1048576 by simp only [ByteArray.size_append]; show 2 + T.size + 1 + 1 + 1 ≤ _; omega)
            clear hp hr p1 p2 hh hR hRR hRE
            generalize hM : (⟨#[dg (r + 1)]⟩ : ByteArray) = M at *
            have hMs : M.size = 1 := by rw [← hM]; rfl
            clear hM
            have hhE : (h == h) = true := by simp
            go_wp2_with (go_at_call 23; refine (vS T _ _ hok hT2).mono ?_; rintro e w' ⟨rfl, rfl⟩)
            refine (specValid_t _ _ _ _ iS hs2 hv).mono ?_
            rintro e w4 ⟨rfl, b4⟩
            have B4 := below_step B3 b4
            have iS := iS.below b4
            clear B3 b4 hv
            cases R with
            | false =>
              go_wp2_with fail
              refine (sI _ _ _ _ _ h (by rw [P1.out]; simp) S1.out iS hs2).mono ?_
              rintro e w5 ⟨rfl, b5⟩
              have B5 := below_step B4 b5
              have iS := iS.below b5
              clear B4 b5
              go_wp2_with (go_at_call 31; refine (HC.out _ iS).mono ?_; rintro e w' ⟨rfl, rfl⟩)
              refine (sI _ _ _ _ _ false (by rw [P2.out]; simp) S2.out iS hs2).mono ?_
              rintro e w6 ⟨rfl, b6⟩
              have B6 := below_step B5 b6
              clear B5 b6 iS
              go_wp2_with fail
              go_ret
              exact ⟨rfl, B6⟩
            | true =>
              go_wp2_with fail
              refine (sI _ _ _ _ _ true (by rw [P1.out]; simp) S1.out iS hs2).mono ?_
              rintro e w5 ⟨rfl, b5⟩
              have B5 := below_step B4 b5
              have iS := iS.below b5
              clear B4 b5
              go_wp2_with fail
              refine (sI _ _ _ _ _ h (by rw [P2.out]; simp) S2.out iS hs2).mono ?_
              rintro e w6 ⟨rfl, b6⟩
              have B6 := below_step B5 b6
              have iS := iS.below b6
              clear B5 b6
              go_wp2_with (go_at_call 31; refine (HC.out _ iS).mono ?_; rintro e w' ⟨rfl, rfl⟩)
              go_ret
              exact ⟨rfl, B6⟩
          · clear hp
            go_wp2_with (go_at_call 23; refine (vS T _ _ hok hT2).mono ?_; rintro e w' ⟨rfl, rfl⟩)
            refine (specValid_t _ _ _ _ iS hs2 hv).mono ?_
            rintro e w4 ⟨rfl, b4⟩
            have B4 := below_step B3 b4
            have iS := iS.below b4
            clear B3 b4 hv
            go_wp2_with fail
            refine (sS T _ _ _ _ _ hR hT2 iS hs2).mono ?_
            rintro e w5 ⟨rfl, b5⟩
            have B5 := below_step B4 b5
            clear B4 b5 hR
            go_wp2_with fail
            go_ret
            exact ⟨rfl, B5⟩
    · go_enter Try.func9, Try.ntmps9
      go_wp2_with fail
      go_ret
      exact ⟨rfl, Below.refl _ _⟩
  · go_enter Try.func9, Try.ntmps9
    go_wp2_with fail
    go_ret
    exact ⟨rfl, Below.refl _ _⟩
end Go.Proofs.Ytlmlplbpebfkbaa
