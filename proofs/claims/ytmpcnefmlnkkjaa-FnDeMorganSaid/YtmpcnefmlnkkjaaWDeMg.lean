/- The walks of the laws that transversals exchange sums and products, and that products distribute over sums. -/
import Derived.Test.YtmpcnefmlnkkjaaWEithLg
import Derived.Test.YtmpcnefmlnkkjaaWTransLg
namespace Go.Proofs.Ytmpcnefmlnkkjaa
open Go.RowKit

theorem hits_mins {S : List Nat} (hS : Msk S) {s : Nat} (_ : s < 64) : hitsQ (mins S) s = hitsQ S s := by
  rw [Bool.eq_iff_iff, hits_iff, hits_iff]
  constructor
  · intro h q hq e
    obtain ⟨k, hk, hkq⟩ := mins_below hS q q (Nat.le_refl _) hq
    refine h k hk ?_
    rw [Nat.and_comm] at e ⊢
    exact and_sub (mins_lt S k hk) (hS q hq) hkq e
  · intro h q hq
    exact h q ((mem_mins hS).1 hq).1
theorem hits_app (a b : List Nat) (s : Nat) : hitsQ (a ++ b) s = (hitsQ a s && hitsQ b s) := by simp [hitsQ]
theorem transOk_iff {F : List (List Int)} : transOk F = true ↔ famOk F = true ∧ 0 < F.length := by simp [transOk]
theorem demorgan {F G : List (List Int)} (h : bothOk F G = true) (hF0 : 0 < F.length) (hG0 : 0 < G.length) :
    transOk F = true ∧ transOk G = true ∧ transOk (outM (eithM F G) true) = true ∧ bothOk (outM (transM F) true) (outM (transM G) true) = true ∧
    outM (transM (outM (eithM F G) true)) true = outM (bothM (outM (transM F) true) (outM (transM G) true)) true := by
  obtain ⟨h1, h2⟩ := bothOk_iff.1 h
  have hF := famOk_sys h1
  have hG := famOk_sys h2
  have tF : transOk F = true := transOk_iff.2 ⟨h1, hF0⟩
  have tG : transOk G = true := transOk_iff.2 ⟨h2, hG0⟩
  obtain ⟨e1, e2⟩ := out_fam (eith_msk hF hG).1 (eith_msk hF hG).2
  have hEne : 0 < (outM (eithM F G) true).length := by
    have hne : mins (eithM F G) ≠ [] := mins_ne (eith_msk hF hG).1 (m := msk (F[0]'hF0)) (List.mem_append_left _ (List.mem_map.2 ⟨_, List.getElem_mem _, rfl⟩))
    have : outM (eithM F G) true = mems (mins (eithM F G)) := by simp [outM]
    rw [this, mems_len]
    exact List.length_pos_iff.2 hne
  have tE : transOk (outM (eithM F G) true) = true := transOk_iff.2 ⟨e1, hEne⟩
  have aF := trans_ok2 tF
  have aG := trans_ok2 tG
  have aF1 := (transOk_iff.1 aF).1
  have aG1 := (transOk_iff.1 aG).1
  refine ⟨tF, tG, tE, bothOk_iff.2 ⟨aF1, aG1⟩, ?_⟩
  have hB := both_msk (famOk_sys aF1) (famOk_sys aG1)
  have l : outM (bothM (outM (transM F) true) (outM (transM G) true)) true = mems (mins (bothM (outM (transM F) true) (outM (transM G) true))) := by simp [outM]
  rw [l, trans_out, mins_congr (trs_msk _) hB.1 fun s hs => ?_]
  have e3 : msks (outM (eithM F G) true) = mins (eithM F G) := by
    have : outM (eithM F G) true = mems (mins (eithM F G)) := by simp [outM]
    rw [this, msks_mems (mins_lt _)]
  have e4 : ∀ F : List (List Int), msks (outM (transM F) true) = mins (trs (msks F)) := fun F => by rw [trans_out, msks_mems (mins_lt _)]
  rw [trs_hasQ (famOk_sys e1).1 hs, e3, hits_mins (eith_msk hF hG).1 hs, hasQ_both, e4, e4, mins_hasQ (trs_msk _) hs, mins_hasQ (trs_msk _) hs, trs_hasQ hF.1 hs, trs_hasQ hG.1 hs]
  exact hits_app _ _ _
theorem eith_nil {F G : List (List Int)} (h : bothOk F G = true) (h0 : F.length = 0 ∨ G.length = 0) : (outM (eithM F G) true).length = F.length + G.length := by
  obtain ⟨h1, h2⟩ := bothOk_iff.1 h
  have hF := famOk_sys h1
  have hG := famOk_sys h2
  rcases h0 with h0 | h0
  · obtain rfl := List.eq_nil_of_length_eq_zero h0
    rw [out_same (F := G) h2 (eith_msk hF hG).1 fun s _ => by rw [hasQ_eith]; simp [msks, hasQ]]
    simp
  · obtain rfl := List.eq_nil_of_length_eq_zero h0
    rw [out_same (F := F) h1 (eith_msk hF hG).1 fun s _ => by rw [hasQ_eith]; simp [msks, hasQ]]
    simp

set_option maxRecDepth 100000 in
set_option maxHeartbeats 6400000 in
theorem walkDeM (A : Option Addr) (c : Nat) (l : List Int) (w : World) (ha : BL w A l) (hc : l.length ≤ c) (hm : l.length ≤ maxLen) (hmc : c ≤ maxLen) :
    Calls Try.prog 7 #[.slice A l.length c] w fun e w' => e = .returned (.bool true) ∧ Below w.heap.size w w' := by
  have hm1 := hm
  unfold maxLen at hm1
  by_cases hl : l.length ≤ 1048576
  · go_enter Try.func7, Try.ntmps7
    go_wp2_with fail
    refine (drawEithN_any _ _ _ _ ha hc hm hmc).mono ?_
    rintro e w1 ⟨F, G, A1, D1, c1, d1, hF, hG, hS, hT, rfl, i1, t1, B1, hAn, hBn⟩
    clear ha hm hc hmc
    have hFl : F.length ≤ 1048576 := by omega
    have hGl : G.length ≤ 1048576 := by omega
    have hFs : Short F 1048576 := fun x hx => Nat.le_trans (hS x hx) (by omega)
    have hGs : Short G 1048576 := fun x hx => Nat.le_trans (hT x hx) (by omega)
    have hO := outM_len (eithM F G) (bothOk F G)
    have sO := outM_short (eithM F G) (bothOk F G)
    go_wp2_with fail
    refine (specEither_opt _ _ _ _ _ _ _ i1 t1 hAn hBn hFl hGl hFs hGs).mono ?_
    rintro e w2 ⟨A2, c2, rfl, OW, b2⟩
    have i2 := i1.below b2
    clear hAn hBn
    have t2 := t1.below b2
    have B2 := below_step B1 b2
    clear i1 t1 B1 b2
    go_wp2_with fail
    refine (implEither_any _ _ _ _ _ _ _ i2 t2 hFl hGl hFs hGs).mono ?_
    rintro e w3 ⟨A3, c3, rfl, OG, b3⟩
    have k3 := (OW.below b3).iss
    have j3 := OG.iss
    have i3 := i2.below b3
    have t3 := t2.below b3
    have B3 := below_step B2 b3
    clear i2 t2 B2 b3 OW OG
    generalize hok : bothOk F G = ok at *
    cases ok
    · clear hok
      go_wp2_with fail
      refine (sameSets_yes _ _ _ _ _ _ j3 k3 (by omega) sO).mono ?_
      rintro e w4 ⟨rfl, d4⟩
      have B4 := below_step B3 d4.below
      have k4 := k3.below d4.below
      have j4 := j3.below d4.below
      clear B3 k3 j3 d4
      go_wp2_with fail
      refine (sameSets_yes _ _ _ _ _ _ j4 k4 (by omega) sO).mono ?_
      rintro e w5 ⟨rfl, d5⟩
      have B5 := below_step B4 d5.below
      clear B4 k4 j4 d5
      go_wp2
      go_ret
      exact ⟨rfl, B5⟩
    · have HDM := Lib.hid (fun h1 h2 => demorgan hok h1 h2)
      have HNL := Lib.hid (fun h1 => eith_nil hok h1)
      clear hok
      go_wp2_with fail
      refine (sameSets_yes _ _ _ _ _ _ j3 k3 (by omega) sO).mono ?_
      rintro e w4 ⟨rfl, d4⟩
      have B4 := below_step B3 d4.below
      have i4 := i3.below d4.below
      have t4 := t3.below d4.below
      have j4 := j3.below d4.below
      clear B3 k3 j3 i3 t3 d4
      have hHl : (outM (eithM F G) true).length ≤ 1048576 := by omega
      by_cases hf0 : F = []
      · have HE := Lib.hid (HNL.out (.inl (by rw [hf0]; rfl)))
        subst hf0
        clear HDM HNL
        generalize outM (eithM [] G) true = H at *
        have hE : H.length = G.length := by rw [HE.out]; simp
        clear HE
        obtain ⟨n, hn⟩ : ∃ n, n = H.length := ⟨_, rfl⟩
        rw [← hn] at hE ⊢
        rw [← hE]
        have hn65 : n ≤ 65 := by omega
        have HN := Lib.hid (show (n : Int) = wrap64 (n : Int) by unfold wrap64; omega)
        clear hn hE
        go_wp2
        go_ret
        exact ⟨by simp <;> exact HN.out, B4⟩
      · by_cases hg0 : G = []
        · have HE := Lib.hid (HNL.out (.inr (by rw [hg0]; rfl)))
          subst hg0
          have hf1 : 0 < F.length := List.length_pos_iff.2 hf0
          clear HDM HNL hf0
          generalize outM (eithM F []) true = H at *
          have hE : H.length = F.length := by rw [HE.out]; simp
          clear HE
          obtain ⟨n, hn⟩ : ∃ n, n = H.length := ⟨_, rfl⟩
          rw [← hn] at hE ⊢
          rw [← hE]
          rw [← hE] at hf1
          have hn0 : n ≠ 0 := by omega
          have hn1 : (n : Int) ≠ 0 := by omega
          have hn65 : n ≤ 65 := by omega
          have HN := Lib.hid (show (n : Int) = wrap64 (n : Int) by unfold wrap64; omega)
          clear hn hE
          go_wp2
          go_ret
          exact ⟨by simp <;> exact HN.out, B4⟩
        · have hf1 : 0 < F.length := List.length_pos_iff.2 hf0
          have hg1 : 0 < G.length := List.length_pos_iff.2 hg0
          obtain ⟨x1, x2, x3, x4, x5⟩ := HDM.out hf1 hg1
          have HX := Lib.hid (And.intro x1 (And.intro x2 (And.intro x3 (And.intro x4 x5))))
          clear x1 x2 x3 x4 x5 hf0 hg0 HDM HNL
          have hfn : F.length ≠ 0 := by omega
          have hgn : G.length ≠ 0 := by omega
          have hfz : ((F.length : Int) == 0) = false := by rw [beq_eq_false_iff_ne]; omega
          have hgz : ((G.length : Int) == 0) = false := by rw [beq_eq_false_iff_ne]; omega
          have T1 := Lib.hid (implTrans_any A1 c1 F)
          have T2 := Lib.hid (implTrans_any D1 d1 G)
          have T3 := Lib.hid (implTrans_any A3 c3 (outM (eithM F G) true))
          rw [HX.out.1] at T1
          rw [HX.out.2.1] at T2
          rw [HX.out.2.2.1, HX.out.2.2.2.2] at T3
          have s1 := outM_short (transM F) true
          have s2 := outM_short (transM G) true
          have l1 := outM_len (transM F) true
          have l2 := outM_len (transM G) true
          have T4 := Lib.hid (fun A B c d => implBoth_any A B c d (outM (transM F) true) (outM (transM G) true))
          rw [HX.out.2.2.2.1] at T4
          have s4 := outM_short (bothM (outM (transM F) true) (outM (transM G) true)) true
          have l4 := outM_len (bothM (outM (transM F) true) (outM (transM G) true)) true
          clear HX
          generalize outM (bothM (outM (transM F) true) (outM (transM G) true)) true = D at *
          generalize outM (transM F) true = X at *
          generalize outM (transM G) true = Y at *
          generalize outM (eithM F G) true = H at *
          go_wp2_with fail
          refine (T1.out _ i4 hFl hFs).mono ?_
          rintro e w5 ⟨A5, c5, rfl, o5, b5⟩
          have x5 := o5.iss
          have t5 := t4.below b5
          have j5 := j4.below b5
          have B5 := below_step B4 b5
          clear o5 b5 i4 t4 j4 B4 T1
          go_wp2_with fail
          refine (T2.out _ t5 hGl hGs).mono ?_
          rintro e w6 ⟨A6, c6, rfl, o6, b6⟩
          have y6 := o6.iss
          have x6 := x5.below b6
          have j6 := j5.below b6
          have B6 := below_step B5 b6
          clear o6 b6 t5 j5 B5 x5 T2
          go_wp2_with fail
          refine (T3.out _ j6 hHl sO).mono ?_
          rintro e w7 ⟨A7, c7, rfl, o7, b7⟩
          have z7 := o7.iss
          have x7 := x6.below b7
          have y7 := y6.below b7
          have B7 := below_step B6 b7
          clear o7 b7 x6 y6 j6 B6 T3
          go_wp2_with fail
          refine (T4.out _ _ _ _ _ x7 y7 (by omega) (by omega) s1 s2).mono ?_
          rintro e w8 ⟨A8, c8, rfl, o8, b8⟩
          have q8 := o8.iss
          have z8 := z7.below b8
          have B8 := below_step B7 b8
          clear o8 b8 x7 y7 z7 B7 T4
          go_wp2_with fail
          refine (sameSets_yes _ _ _ _ _ _ z8 q8 (by omega) s4).mono ?_
          rintro e w9 ⟨rfl, d9⟩
          have B9 := below_step B8 d9.below
          clear z8 q8 B8 d9
          go_wp2
          go_ret
          exact ⟨rfl, B9⟩
  · go_enter Try.func7, Try.ntmps7
    go_wp2_with fail
    go_ret
    exact ⟨rfl, Below.refl _ _⟩
end Go.Proofs.Ytmpcnefmlnkkjaa
