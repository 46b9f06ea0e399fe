/- The reference model's sums and products of quorum systems, by their contracts. -/
import Derived.Test.YtdanecbjmboehaaMinT
import Derived.Test.YtdanecbjmboehaaEith
import Derived.Test.YtdanecbjmboehaaSpecU
import Derived.Deep.AppendLies
namespace Go.Proofs.Ytdanecbjmboehaa
open Go.RowKit

/-- The cells of a slice of slices. -/
theorem ISS.cells {w : World} {ad : Addr} {F : List (List Int)} (h : ISS w (some ad) F) :
    ∃ vs : List Value, vs.length = F.length ∧ (∀ j u, vs[j]? = some u → w.cell? (ad.add j) = some u) ∧ (∀ u ∈ vs, u.oneCell' = true) ∧ ∀ (j : Nat) l, F[j]? = some l → ∃ B d, vs[j]? = some (.slice B l.length d) ∧ IL w B l := by
  rcases h with rfl | ⟨b, off, e, hlt, hc⟩
  · exact ⟨[], rfl, by simp, by simp, by simp⟩
  · injection e with e
    subst e
    have : ∀ n, n ≤ F.length → ∃ vs : List Value, vs.length = n ∧ (∀ j u, vs[j]? = some u → w.cell? ((⟨b, off, none⟩ : Addr).add j) = some u) ∧ (∀ u ∈ vs, u.oneCell' = true) ∧ ∀ (j : Nat) l, j < n → F[j]? = some l → ∃ B d, vs[j]? = some (.slice B l.length d) ∧ IL w B l := by
      intro n
      induction n with
      | zero => intro _; exact ⟨[], rfl, by simp, by simp, by intro j l h; omega⟩
      | succ n ih =>
        intro hn
        obtain ⟨vs, h1, h2, h3, h4⟩ := ih (by omega)
        obtain ⟨B, d, h5, h6⟩ := hc n F[n] (List.getElem?_eq_getElem (by omega))
        refine ⟨vs ++ [.slice B F[n].length d], by simp [h1], fun j u hu => ?_, fun u hu => ?_, fun j l hj hl => ?_⟩
        · rcases Nat.lt_or_ge j vs.length with h | h
          · rw [List.getElem?_append_left h] at hu; exact h2 j u hu
          · rw [List.getElem?_append_right h] at hu
            have hj : j = n := by
              have := (List.getElem?_eq_some_iff.1 hu).1
              simp at this; omega
            subst hj
            simp [h1] at hu
            subst hu
            rw [Addr.add_lit]
            exact h5
        · rcases List.mem_append.1 hu with h | h
          · exact h3 u h
          · simp at h; subst h; rfl
        · rcases Nat.lt_or_ge j n with h | h
          · obtain ⟨B', d', h7, h8⟩ := h4 j l h hl
            exact ⟨B', d', by rw [List.getElem?_append_left (by omega)]; exact h7, h8⟩
          · have hj' : j = n := by omega
            subst hj'
            have hl' : l = F[j] := by rw [List.getElem?_eq_getElem (by omega)] at hl; exact (Option.some.inj hl).symm
            subst hl'
            exact ⟨B, d, by rw [List.getElem?_append_right (by omega)]; simp [h1], h6⟩
    obtain ⟨vs, h1, h2, h3, h4⟩ := this F.length (Nat.le_refl _)
    exact ⟨vs, h1, h2, h3, fun j l hl => h4 j l (List.getElem?_eq_some_iff.1 hl).1 hl⟩
/-- A row of slices reads as the lists that they read as. -/
theorem iss_own {w : World} {base n c : Nat} {e : TypeId} {A : Option Addr} {F : List (List Int)} {xs : List Value} (ho : w.ownsRow base e 1 (.slice A n c) n xs) (hn : n = F.length) (hx : ∀ (j : Nat) l, F[j]? = some l → ∃ B d, xs[j]? = some (.slice B l.length d) ∧ IL w B l) : ISS w A F := by
  rcases ho.2 with ⟨h0, h1⟩ | ⟨g, cap, cur, hv, hb, hg, _⟩
  · left; exact List.eq_nil_of_length_eq_zero (by omega)
  · injection hv with hA _ hcc
    subst hA
    refine .inr ⟨g, 0, rfl, (Array.getElem?_eq_some_iff.1 hg).1, fun j l hl => ?_⟩
    obtain ⟨B, d, h1, h2⟩ := hx j l hl
    refine ⟨B, d, ?_, h2⟩
    have := ho.cells (g := g) rfl j _ h1
    rw [Addr.add_lit] at this
    exact this
theorem allV_app {F G : List (List Int)} (hF : allV F) (hG : allV G) : allV (F ++ G) := fun l hl => (List.mem_append.1 hl).elim (hF l) (hG l)
theorem short_app {F G : List (List Int)} {n : Nat} (hF : Short F n) (hG : Short G n) : Short (F ++ G) n := fun l hl => (List.mem_append.1 hl).elim (hF l) (hG l)
theorem msks_app (F G : List (List Int)) : msks (F ++ G) = msks F ++ msks G := by simp [msks]

set_option maxRecDepth 100000 in
set_option maxHeartbeats 1600000 in
theorem specEither_any (a0 b0 : Addr) (c d : Nat) (F G : List (List Int)) (w : World) (ha : ISS w (some a0) F) (hb : ISS w (some b0) G) (hlf : F.length ≤ 1048576) (hlg : G.length ≤ 1048576) (hsf : Short F 1048576) (hsg : Short G 1048576) :
    Calls Try.prog 38 #[.slice (some a0) F.length c, .slice (some b0) G.length d] w (NewSS2 w (outM (eithM F G) (bothOk F G)) (bothOk F G)) := by
  obtain ⟨i0, hi0, hz0, hz1, hz2⟩ := info_parts slice_info
  cases hf : famOk F
  · have HF := Lib.hid hf
    have HB := Lib.hid (show bothOk F G = false by simp [bothOk, hf])
    clear hf
    go_enter Try.func38, Try.ntmps38
    go_wp2_with fail
    refine (specFam_any _ _ _ _ ha hlf hsf).mono ?_
    rintro e w1 ⟨he, hd1⟩
    rw [HF.out] at he
    subst he
    go_wp2
    go_ret2
    rw [HB.out, outM]
    exact NewSS2.made hd1.below
  · cases hg : famOk G
    · have HF := Lib.hid hf
      have HG := Lib.hid hg
      have HB := Lib.hid (show bothOk F G = false by simp [bothOk, hg])
      clear hf hg
      go_enter Try.func38, Try.ntmps38
      go_wp2_with fail
      refine (specFam_any _ _ _ _ ha hlf hsf).mono ?_
      rintro e w1 ⟨he, hd1⟩
      rw [HF.out] at he
      subst he
      go_wp2_with fail
      refine (specFam_any _ _ _ _ (hb.below hd1.below) hlg hsg).mono ?_
      rintro e w2 ⟨he, hd2⟩
      rw [HG.out] at he
      subst he
      have hd := hd1.trans hd2
      clear hd1 hd2
      go_wp2
      go_ret2
      rw [HB.out, outM]
      exact NewSS2.made hd.below
    · have HF := Lib.hid hf
      have HG := Lib.hid hg
      have HB := Lib.hid (show bothOk F G = true by simp [bothOk, hf, hg])
      have hlf2 := famOk_len hf
      have hlg2 := famOk_len hg
      have HV := Lib.hid (And.intro (famOk_allV hf) (famOk_allV hg))
      clear hf hg
      go_enter Try.func38, Try.ntmps38
      go_wp2_with fail
      refine (specFam_any _ _ _ _ ha hlf hsf).mono ?_
      rintro e w1 ⟨he, hd1⟩
      rw [HF.out] at he
      subst he
      go_wp2_with fail
      refine (specFam_any _ _ _ _ (hb.below hd1.below) hlg hsg).mono ?_
      rintro e w2 ⟨he, hd2⟩
      rw [HG.out] at he
      subst he
      have hbel := (hd1.trans hd2).below
      clear hd1 hd2
      have ha2 := ha.below (hbel.trans ((Below.refl _ w2).alloc hbel.size (.cells #[] 28)))
      have hb2 := hb.below (hbel.trans ((Below.refl _ w2).alloc hbel.size (.cells #[] 28)))
      obtain ⟨vf, f1, f2, f3, f4⟩ := ha2.cells
      obtain ⟨vg, g1, g2, g3, g4⟩ := hb2.cells
      have hbA : Below w.heap.size w (w2.alloc (.cells #[] 28)) := hbel.alloc hbel.size _
      have h0 : (w2.alloc (.cells #[] 28)).ownsRow w2.heap.size 28 1 (.slice (some ⟨w2.heap.size, 0, none⟩) 0 0) 0 [] := World.ownsRow_made w2 #[] 0 (Nat.le_refl _) (by unfold maxLen; omega) (by simp)
      go_wp2_with (at_builtin; refine wpList_append_own _ rfl (.tmp 15) (.tmp 16) 23 rfl w2.heap.size 28 i0 (.slice none 0 0) 1 24 Try.underlying23 hi0 hz0 hz1 hz2 rfl (by decide) _ _ _ rfl h0 a0 F.length c vf rfl (by omega) f2 f3 (by unfold maxLen; omega) (by omega) (by simp) ?_)
      intro v3 w3 hown3 hgrow3 _
      have hb3 : Below w2.heap.size w2 w3 := ((Below.refl _ w2).alloc (Nat.le_refl _) _).grown hgrow3 (by simp) (fun k hk => by cases hk; exact Nat.le_refl _)
      have hbc3 : Below w2.heap.size (w2.alloc (.cells #[] 28)) w3 := (Below.refl _ _).grown hgrow3 (by simp) (fun k hk => by cases hk; exact Nat.le_refl _)
      obtain ⟨vg', k1, k2, k3, k4⟩ := (hb.below (below_step hbel hb3)).cells
      obtain ⟨A3, c3, rfl⟩ := own_slice hown3
      have hs3 := hb3.size
      clear g1 g2 g3 g4
      go_wp2_with (at_builtin; refine wpList_append_own _ rfl (.tmp 17) (.tmp 18) 23 rfl w2.heap.size 28 i0 (.slice none 0 0) 1 24 Try.underlying23 hi0 hz0 hz1 hz2 rfl (by decide) _ _ _ rfl hown3 b0 G.length d vg' rfl (by omega) k2 k3 (by unfold maxLen; omega) (by omega) hs3 ?_)
      intro v4 w4 hown4 hgrow4 _
      have hb4 : Below w2.heap.size w2 w4 := hb3.grown hgrow4 hb3.size (fun k hk => (hown3.lt k hk).1)
      have hfg : (F ++ G).length = F.length + G.length := List.length_append
      rw [← hfg] at hown4
      obtain ⟨A4, c4, rfl⟩ := own_slice hown4
      have hbw4 := below_step hbel hb4
      have hiss : ISS w4 A4 (F ++ G) := by
        obtain ⟨vf', p1, p2, p3, p4⟩ := (ha.below hbel).cells
        refine iss_own hown4 rfl fun j l hl => ?_
        rcases Nat.lt_or_ge j F.length with hj | hj
        · rw [List.getElem?_append_left hj] at hl
          obtain ⟨B, d', q1, q2⟩ := f4 j l hl
          obtain ⟨B2, d2, q3, q4⟩ := p4 j l hl
          have e1 := f2 j _ q1
          have e2 := p2 j _ q3
          have e3 : (w2.alloc (.cells #[] 28)).cell? (a0.add j) = some (.slice B2 l.length d2) := by
            have hlt := World.block_lt_of_cell? w2 _ e2
            rw [World.cell?_of_block (w := w2) (Below.heap_alloc w2 _ _ hlt)]
            exact e2
          rw [e1] at e3
          injection e3 with e3
          injection e3 with e4 _ e5
          subst e4 e5
          exact ⟨B, d', by rw [List.getElem?_append_left (by omega)]; exact q1, q4.below hb4⟩
        · rw [List.getElem?_append_right hj] at hl
          obtain ⟨vh, r1, r2, r3, r4⟩ := (hb.below (below_step hbel hb3)).cells
          obtain ⟨B, d', q1, q2⟩ := k4 _ l hl
          have h5 : Below w3.heap.size w3 w3 := Below.refl _ _
          obtain ⟨B2, d2, q3, q4⟩ := ((hb.below hbel).cells).choose_spec.2.2.2 _ l hl
          have e1 := k2 _ _ q1
          have e2 := ((hb.below hbel).cells).choose_spec.2.1 _ _ q3
          have hlt := World.block_lt_of_cell? w2 _ e2
          have e3 : w3.cell? (b0.add (j - F.length)) = some (.slice B2 l.length d2) := by
            rw [World.cell?_of_block (w := w2) (hb3.block _ hlt)]
            exact e2
          rw [e1] at e3
          injection e3 with e3
          injection e3 with e4 _ e5
          subst e4 e5
          exact ⟨B, d', by rw [List.getElem?_append_right (by omega), f1]; exact q1, q4.below hb4⟩
      have HE := Lib.hid (show msks (F ++ G) = eithM F G from msks_app F G)
      have hsh := short_app hsf hsg
      have hlen : (F ++ G).length ≤ 1048576 := by omega
      have HV2 := Lib.hid (allV_app HV.out.1 HV.out.2)
      clear hown3 hgrow3 hown4 hgrow4 h0 f1 f2 f3 f4 k1 k2 k3 k4 hfg
      generalize F ++ G = U at *
      go_wp2_with fail
      refine (l3Min_any _ _ _ _ hiss hlen hsh HV2.out).mono ?_
      rintro e w5 ⟨A5, c5, rfl, o5, b5⟩
      have HR := Lib.hid (show NewSS2 w (outM (eithM F G) (bothOk F G)) (bothOk F G) (.returned (.tuple #[.slice A5 (mems (mins (msks U))).length c5, .bool true])) w5 by
        rw [HE.out] at *
        rw [HB.out, outM]
        exact ⟨A5, c5, rfl, o5.base hbw4.size, below_step hbw4 b5⟩)
      clear o5 b5
      go_wp2
      go_ret2
      exact HR.out
end Go.Proofs.Ytdanecbjmboehaa
