/- The walk of the law that threshold systems tolerate the remaining members. -/
import Derived.Test.YtngacjfoldgjpaaGreatDoorDrawMg
import Derived.Test.YtngacjfoldgjpaaGreatDoorMetSg
import Derived.Test.YtngacjfoldgjpaaGreatDoorMetIg
import Derived.Test.YtngacjfoldgjpaaGreatDoorWUnifg
namespace Go.Proofs.YtngacjfoldgjpaaGreatDoor
open Go.RowKit

theorem unif_met {n k : Nat} (h1 : 1 ≤ k) (h2 : k ≤ n) (hn : n ≤ 6) : resR (outM (enoL (List.replicate n 1) (k : Int)) true) (n : Int) = (n : Int) - (k : Int) ∧ smlR (outM (enoL (List.replicate n 1) (k : Int)) true) = (k : Int) := by
  have H : ∀ n : Fin 7, ∀ k : Fin 7, k.val = 0 ∨ n.val < k.val ∨ (resR (outM (enoL (List.replicate n.val 1) (k.val : Int)) true) (n.val : Int) = (n.val : Int) - (k.val : Int) ∧ smlR (outM (enoL (List.replicate n.val 1) (k.val : Int)) true) = (k.val : Int)) := by decide +kernel
  rcases H ⟨n, by omega⟩ ⟨k, by omega⟩ with h | h | h
  · simp only at h; omega
  · simp only at h; omega
  · exact h

set_option maxRecDepth 100000 in
set_option maxHeartbeats 3200000 in
theorem walkResM (A B : Option Addr) (c d : Nat) (l m : List Int) (w : World) (ha : BL w A l) (hc : l.length ≤ c) (hmc : c ≤ maxLen) (hd : m.length ≤ d) (hmd : d ≤ maxLen) :
    Calls Tryz.prog 3 #[.slice A l.length c, .slice B m.length d] w fun e w' => e = .returned (.bool true) ∧ Below w.heap.size w w' := by
  have hm := Nat.le_trans hc hmc
  have hmm := Nat.le_trans hd hmd
  have hm1 := hm
  have hm2 := hmm
  unfold maxLen at hm1 hm2
  by_cases hl : l.length ≤ 1048576
  · by_cases hl2 : m.length ≤ 1048576
    · obtain ⟨ml, hml⟩ : ∃ ml, ml = m.length := ⟨_, rfl⟩
      rw [← hml] at hl2 hm2 ⊢
      clear hml hmm hd hmd
      go_enter Tryz.func3, Tryz.ntmps3
      go_wp2_with fail
      refine (drawRes_any _ _ _ _ ha hc hm hmc).mono ?_
      rintro e w1 ⟨F, n, A1, c1, hF, hS, hn0, hn7, rfl, i1, B1⟩
      clear ha hm hc hmc
      have hFl : F.length ≤ 1048576 := by omega
      have hFs : Short F 1048576 := fun x hx => Nat.le_trans (hS x hx) (by omega)
      go_wp2_with fail
      refine (implRes_any _ _ _ _ _ i1 hFl hFs).mono ?_
      rintro e w2 ⟨rfl, b2⟩
      have i2 := i1.below b2
      have B2 := below_step B1 b2
      clear i1 B1 b2
      go_wp2_with fail
      refine (specRes_any _ _ _ _ _ i2 hFl hFs).mono ?_
      rintro e w3 ⟨rfl, b3⟩
      have B3 := below_step B2 b3
      clear i2 B2 b3
      obtain ⟨r6, hr6⟩ : ∃ r, r = ml % 6 := ⟨_, rfl⟩
      have h1 : Int.tmod (ml : Int) 6 = (r6 : Int) := by rw [Int.tmod_eq_emod_of_nonneg (by omega), hr6]; omega
      have h1e : (ml : Int) % 6 = (r6 : Int) := by rw [hr6]; omega
      have hr6l : r6 < 6 := by omega
      obtain ⟨nn, hnn⟩ : ∃ n, n = 1 + r6 := ⟨_, rfl⟩
      have h2 : (1 : Int) + (r6 : Int) = (nn : Int) := by omega
      obtain ⟨q, hq⟩ : ∃ q, q = ml / 6 := ⟨_, rfl⟩
      have h3 : Int.tdiv (ml : Int) 6 = (q : Int) := by rw [Int.tdiv_eq_ediv_of_nonneg (by omega), hq]; omega
      have h3e : (ml : Int) / 6 = (q : Int) := by rw [hq]; omega
      obtain ⟨r2, hr2⟩ : ∃ r, r = q % nn := ⟨_, rfl⟩
      have h4 : Int.tmod (q : Int) (nn : Int) = (r2 : Int) := by rw [Int.tmod_eq_emod_of_nonneg (by omega), hr2]; rfl
      have h4e : (q : Int) % (nn : Int) = (r2 : Int) := by rw [hr2]; rfl
      have hr2l : r2 < nn := by rw [hr2]; exact Nat.mod_lt _ (by omega)
      obtain ⟨kk, hkk⟩ : ∃ k, k = 1 + r2 := ⟨_, rfl⟩
      have h5 : (1 : Int) + (r2 : Int) = (kk : Int) := by omega
      have hn6 : nn ≤ 6 := by omega
      have hn1' : 1 ≤ nn := by omega
      have hk1 : 1 ≤ kk := by omega
      have hkn : kk ≤ nn := by omega
      have hnz : ¬ ((nn : Int) = 0) := by omega
      have hnz2 : nn ≠ 0 := by omega
      have hq9 : (q : Int) ≤ 1048576 := by omega
      clear hr6 hnn hq hr2 hkk
      obtain ⟨u1, u2, u3, u4⟩ := unif hk1 hkn hn6
      obtain ⟨_, _, _, u8⟩ := unif_one hn1' hn6
      have HMt := Lib.hid (unif_met hk1 hkn hn6)
      have T2 := Lib.hid (fun (A : Option Addr) (c : Nat) (w : World) (hi : IL w A ((mem 63).take nn)) => tI (kk : Int) A c ((mem 63).take nn) w _ _ rfl u2 hi (by omega))
      rw [u8] at T2
      have hXs : (thrX (kk : Int) ((mem 63).take nn)).size ≤ 1048576 := Nat.le_trans (thrX_size _ _) (by omega)
      have T3 := Lib.hid (fun (w : World) => implOfEx_any (thrX (kk : Int) ((mem 63).take nn)) w hXs)
      rw [u3, u4] at T3
      have s5 := outM_short (enoL (List.replicate nn 1) (kk : Int)) true
      have l5 := outM_len (enoL (List.replicate nn 1) (kk : Int)) true
      clear u1 u2 u3 u4 u8
      generalize thrX (kk : Int) ((mem 63).take nn) = X at *
      generalize outM (enoL (List.replicate nn 1) (kk : Int)) true = E at *
      generalize resR F n = rr at *
      go_wp2_with fail
      refine (allM_any _).mono ?_
      rintro e w7 ⟨A7, c7, rfl, o7, b7⟩
      have x7 := il_takeU (IL.of_own o7).1 nn
      obtain ⟨g7', rfl, hbg7, hgl7⟩ := own_form o7 (by decide)
      have hc7 : 6 ≤ c7 := by
        rcases o7.2 with ⟨hv, _⟩ | ⟨g, cap, cur, hv, _, _, hnc, _⟩
        · cases hv
        · injection hv with _ _ hcc
          have h6 : (mem 63).length = 6 := by decide
          omega
      have hl6 : (mem 63).length = 6 := by decide
      have B7 := below_step B3 b7
      have hsl : ¬ ((nn : Int) < 0) := by omega
      have hsl2 : (nn : Int) ≤ (c7 : Int) := by omega
      have hsl3 : nn ≤ c7 := by omega
      clear o7 b7 B3 hbg7 hgl7
      go_wp2_with fail
      refine (T2.out _ _ _ x7).mono ?_
      rintro e w8 ⟨rfl, b8⟩
      have B8 := below_step B7 b8
      clear B7 b8 x7 T2
      go_wp2_with fail
      refine (T3.out _).mono ?_
      rintro e w9 ⟨A9, c9, rfl, o9, b9⟩
      have i9 := o9.iss
      have B9 := below_step B8 b9
      clear B8 b9 o9 T3
      have HR := Lib.hid (fun (W : World) (hi : ISS W A9 E) => implRes_any A9 c9 E (nn : Int) W hi (by omega) s5)
      have HS := Lib.hid (fun (W : World) (hi : ISS W A9 E) => implSmall_any A9 c9 E W hi (by omega) s5)
      rw [HMt.out.1] at HR
      rw [HMt.out.2] at HS
      clear HMt
      go_wp2_with fail
      refine (HR.out _ i9).mono ?_
      rintro e w10 ⟨rfl, b10⟩
      have i10 := i9.below b10
      have B10 := below_step B9 b10
      clear B9 b10 i9
      go_wp2_with fail
      refine (HS.out _ i10).mono ?_
      rintro e w11 ⟨rfl, b11⟩
      have B11 := below_step B10 b11
      clear B10 b11 i10
      go_wp2
      go_ret
      exact ⟨rfl, B11⟩
    · have hl3 : (1048576 : Int) < (m.length : Int) := by omega
      go_enter Tryz.func3, Tryz.ntmps3
      go_wp2
      go_ret
      exact ⟨rfl, Below.refl _ _⟩
  · have hl3 : (1048576 : Int) < (l.length : Int) := by omega
    go_enter Tryz.func3, Tryz.ntmps3
    go_wp2
    go_ret
    exact ⟨rfl, Below.refl _ _⟩
end Go.Proofs.YtngacjfoldgjpaaGreatDoor
