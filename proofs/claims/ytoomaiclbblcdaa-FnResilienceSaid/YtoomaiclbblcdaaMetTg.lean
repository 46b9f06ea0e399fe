/- The reference model's smallest quorum, critical members and survival, by their contracts. -/
import Derived.Test.YtoomaiclbblcdaaMetSg
namespace Go.Proofs.Ytoomaiclbblcdaa
open Go.RowKit

set_option maxRecDepth 100000 in
set_option maxHeartbeats 1600000 in
theorem specSmall_any (A : Option Addr) (c : Nat) (F : List (List Int)) (w : World) (ha : ISS w A F) (hl : F.length ≤ 1048576) (hs : Short F 1048576) :
    Calls Try.prog 32 #[.slice A F.length c] w fun e w' => e = .returned (.int .i64 (smlR F)) ∧ Drew w w' := by
  cases hf : famOk F
  · have HF := Lib.hid hf
    have HB := Lib.hid (show smlR F = -1 by simp [smlR, transOk, hf])
    clear hf
    go_enter Try.func32, Try.ntmps32
    go_wp2_with fail
    refine (specFam_any _ _ _ _ ha hl hs).mono ?_
    rintro e w1 ⟨he, hd1⟩
    rw [HF.out] at he
    subst he
    go_wp2
    go_ret
    exact ⟨ret_int HB.out.symm, hd1⟩
  · by_cases h0 : F.length = 0
    · have HF := Lib.hid hf
      have HB := Lib.hid (show smlR F = -1 by simp [smlR, transOk, h0])
      have h0b : ((F.length : Int) == 0) = true := by simp [h0]
      clear hf h0
      go_enter Try.func32, Try.ntmps32
      go_wp2_with fail
      refine (specFam_any _ _ _ _ ha hl hs).mono ?_
      rintro e w1 ⟨he, hd1⟩
      rw [HF.out] at he
      subst he
      go_wp2
      go_ret
      exact ⟨ret_int HB.out.symm, hd1⟩
    · have HF := Lib.hid hf
      have HB := Lib.hid (show smlR F = (sml F F.length : Int) by rw [smlR, if_pos (by simp [transOk, hf]; omega)])
      have h0b : ((F.length : Int) == 0) = false := beq_eq_false_iff_ne.2 (by omega)
      have h0l : 0 < F.length := by omega
      have h0i : (0 : Int) < (F.length : Int) := by omega
      clear hf h0
      go_enter Try.func32, Try.ntmps32
      go_wp2_with fail
      refine (specFam_any _ _ _ _ ha hl hs).mono ?_
      rintro e w1 ⟨he, hd1⟩
      rw [HF.out] at he
      subst he
      have ha1 := ha.below hd1.below
      obtain ⟨b, off, l, B', d', rfl, hx, hc, hil⟩ := ha1.at_ h0l
      have hll := hs.at_ hx
      have HX0 := Lib.hid (show l.length = sml F 1 by rw [sml_one]; cases F with | nil => simp at h0l | cons a F => simp at hx; rw [hx]; rfl)
      have hc0 : w1.cell? ⟨b, off, none⟩ = some (.slice B' l.length d') := hc
      clear hx hil
      go_wp2
      go_loopw [3, 4] (fun v i wr => ∃ (k : Nat) (x : Nat), 1 ≤ k ∧ k ≤ F.length ∧ i = .int .i64 k ∧ v = .int .i64 (x : Int) ∧ Hid (x = sml F k) ∧ x ≤ 1048576 ∧ Drew w wr) (fun _ i _ => F.length - (intOf i).toNat)
      case atStart => exact ⟨1, l.length, by omega, by omega, rfl, rfl, HX0, by omega, hd1⟩
      case round =>
        obtain ⟨k, x, hk1, hk, rfl, rfl, HX, hx6, hd⟩ := hrel
        by_cases hlt : k < F.length
        · have ha2 := ha.below hd.below
          obtain ⟨b2, off2, p, B2, d2, e2, hx2, hc2, hil2⟩ := ha2.at_ hlt
          injection e2 with e2
          injection e2 with e3 e4
          subst e3 e4
          have hpl := hs.at_ hx2
          have hki : (0 : Int) ≤ (k : Int) := by omega
          have hki2 : (k : Int) < (F.length : Int) := by omega
          have HX2 := Lib.hid (show min x p.length = sml F (k + 1) by rw [sml_succ hx2, HX.out])
          clear HX hx2 hil2
          generalize p.length = y at *
          by_cases hxy : x ≤ y
          · have h1 : min x y = x := Nat.min_eq_left hxy
            have h2 : (x : Int) ≤ (y : Int) := by omega
            have h3 : ¬ ((y : Int) < (x : Int)) := by omega
            rw [h1] at HX2
            go_wp2
            go_roundw
            case rel => exact ⟨k + 1, x, by omega, by omega, by go_num, by simp <;> omega, HX2, hx6, hd⟩
            case measure => simp [intOf]; omega
          · have h1 : min x y = y := Nat.min_eq_right (by omega)
            have h2 : ¬ ((x : Int) ≤ (y : Int)) := by omega
            have h3 : (y : Int) < (x : Int) := by omega
            rw [h1] at HX2
            go_wp2
            go_roundw
            case rel => exact ⟨k + 1, y, by omega, by omega, by go_num, by simp <;> omega, HX2, by omega, hd⟩
            case measure => simp [intOf]; omega
        · have hkl : k = F.length := by omega
          subst hkl
          have HX2 := Lib.hid (show (x : Int) = smlR F by rw [HB.out, ← HX.out])
          clear HX
          go_wp2
          go_ret
          exact ⟨ret_int HX2.out, hd⟩

theorem new_nil {w w1 : World} (hb : Below w.heap.size w w1) : New w [] (.returned (.slice (some ⟨w1.heap.size, 0, none⟩) 0 0)) (w1.alloc (.cells #[] 3)) :=
  ⟨_, _, rfl, World.ownsRow_made w1 #[] 0 hb.size (by unfold maxLen; omega) (by simp), hb.alloc hb.size _⟩

set_option maxRecDepth 100000 in
set_option maxHeartbeats 1600000 in
theorem specCrit_any (A : Option Addr) (c : Nat) (F : List (List Int)) (w : World) (ha : ISS w A F) (hl : F.length ≤ 1048576) (hs : Short F 1048576) :
    Calls Try.prog 37 #[.slice A F.length c] w (New w (crtR F)) := by
  obtain ⟨i0, hi0, hz0, hz1, hz2⟩ := info_parts int_info
  cases hf : famOk F
  · have HF := Lib.hid hf
    have HB := Lib.hid (show crtR F = [] by simp [crtR, transOk, hf])
    clear hf
    rw [HB.out]
    go_enter Try.func37, Try.ntmps37
    go_wp2_with fail
    refine (specFam_any _ _ _ _ ha hl hs).mono ?_
    rintro e w1 ⟨he, hd1⟩
    rw [HF.out] at he
    subst he
    go_wp2
    go_ret
    exact new_nil hd1.below
  · by_cases h0 : F.length = 0
    · have HF := Lib.hid hf
      have HB := Lib.hid (show crtR F = [] by simp [crtR, transOk, h0])
      have h0b : ((F.length : Int) == 0) = true := by simp [h0]
      clear hf h0
      rw [HB.out]
      go_enter Try.func37, Try.ntmps37
      go_wp2_with fail
      refine (specFam_any _ _ _ _ ha hl hs).mono ?_
      rintro e w1 ⟨he, hd1⟩
      rw [HF.out] at he
      subst he
      go_wp2
      go_ret
      exact new_nil hd1.below
    · have htk : transOk F = true := by simp [transOk, hf]; omega
      have HF := Lib.hid hf
      have HB := Lib.hid (show crtR F = crt F F.length by simp [crtR, htk])
      have h0b : ((F.length : Int) == 0) = false := beq_eq_false_iff_ne.2 (by omega)
      have h0l : 0 < F.length := by omega
      have h0i : (0 : Int) < (F.length : Int) := by omega
      have HC1 := Lib.hid (crt_one htk)
      have HR := Lib.hid (fun (k : Nat) (l : List Int) (hx : F[k]? = some l) => fam_row hf hx)
      clear hf h0 htk
      rw [HB.out]
      go_enter Try.func37, Try.ntmps37
      go_wp2_with fail
      refine (specFam_any _ _ _ _ ha hl hs).mono ?_
      rintro e w1 ⟨he, hd1⟩
      rw [HF.out] at he
      subst he
      have hb1 := hd1.below
      clear hd1
      have ha1 := ha.below hb1
      obtain ⟨b, off, l, B', d', rfl, hx, hc, hil⟩ := ha1.at_ h0l
      obtain ⟨hv, hl0⟩ := HR.out _ _ hx
      have hl6 := vld_len hv
      have HX0 := Lib.hid (show l = crt F 1 by rw [HC1.out]; cases F with | nil => simp at h0l | cons a F => simp at hx; rw [hx]; rfl)
      clear hx hv
      rcases hil with hn | ⟨b3, off3, rfl, hlt3, hcc⟩
      · rw [hn] at hl0; simp at hl0
      have hbA : Below w1.heap.size w1 (w1.alloc (.cells #[] 3)) := (Below.refl _ w1).alloc (Nat.le_refl _) _
      have ho0 : (w1.alloc (.cells #[] 3)).ownsRow w1.heap.size 3 1 (.slice (some ⟨w1.heap.size, 0, none⟩) 0 0) 0 [] := World.ownsRow_made w1 #[] 0 (Nat.le_refl _) (by unfold maxLen; omega) (by simp)
      have hcA : (w1.alloc (.cells #[] 3)).cell? ⟨b, off + 0, none⟩ = some (.slice (some ⟨b3, off3, none⟩) l.length d') := (World.cell?_of_block (w := w1) (Below.heap_alloc w1 _ b (World.block_lt_of_cell? w1 _ hc))).trans hc
      have hcA0 : (w1.alloc (.cells #[] 3)).cell? ⟨b, off, none⟩ = some (.slice (some ⟨b3, off3, none⟩) l.length d') := hcA
      have hnews : ∀ (j : Nat) u, (l.map (Value.int .i64))[j]? = some u → (w1.alloc (.cells #[] 3)).cell? ((⟨b3, off3, none⟩ : Addr).add j) = some u := by
        intro j u hu
        rw [List.getElem?_map] at hu
        obtain ⟨x, hx, rfl⟩ := Option.map_eq_some_iff.1 hu
        rw [Addr.add_lit]
        exact (World.cell?_of_block (w := w1) (Below.heap_alloc w1 _ b3 hlt3)).trans (hcc j x hx)
      clear hcc
      go_wp2_with (at_builtin; refine wpList_append_own _ rfl (.tmp 14) (.tmp 17) 27 rfl w1.heap.size 3 i0 (.int .i64 0) 1 8 Try.underlying27 hi0 hz0 hz1 hz2 rfl (by decide) _ _ _ rfl ho0 ⟨b3, off3, none⟩ l.length d' (l.map (Value.int .i64)) rfl (by simp) hnews (ints_oneCell .i64 l) (by unfold maxLen; omega) (by omega) hbA.size ?_)
      intro v2 w2 ho2 hg2 _
      have hb2 : Below w1.heap.size w1 w2 := hbA.grown hg2 hbA.size (fun k hk => by cases hk; exact Nat.le_refl _)
      have ho2' : w2.ownsRow w.heap.size 3 1 v2 l.length (l.map (Value.int .i64)) := by
        have := own_base ho2 hb1.size
        simpa using this
      obtain ⟨A2, c2, rfl⟩ := own_slice ho2'
      have H0 := Lib.hid (And.intro ho2' (below_step hb1 hb2))
      clear ho2 hg2 ho2' hb2 ho0 hnews hcA hcA0 hbA
      go_wp2
      go_loopw [3, 4] (fun v i wr => ∃ (k : Nat) (x : List Int) (A : Option Addr) (c : Nat), 1 ≤ k ∧ k ≤ F.length ∧ i = .int .i64 k ∧ v = .slice A x.length c ∧ Hid (x = crt F k) ∧ x.length ≤ 6 ∧ wr.ownsRow w.heap.size 3 1 (.slice A x.length c) x.length (x.map (Value.int .i64)) ∧ Below w.heap.size w wr) (fun _ i _ => F.length - (intOf i).toNat)
      case atStart => exact ⟨1, l, A2, c2, by omega, by omega, rfl, rfl, HX0, by omega, H0.out.1, H0.out.2⟩
      case round =>
        clear H0
        obtain ⟨k, x, A5, c5, hk1, hk, rfl, rfl, HX, hx6, hown, hbel⟩ := hrel
        by_cases hlt : k < F.length
        · have ha2 := ha.below hbel
          obtain ⟨b2, off2, p, B2, d2, e2, hx2, hc2, hil2⟩ := ha2.at_ hlt
          injection e2 with e2
          injection e2 with e3 e4
          subst e3 e4
          have hpl := hs.at_ hx2
          have hki : (0 : Int) ≤ (k : Int) := by omega
          have hki2 : (k : Int) < (F.length : Int) := by omega
          have HX2 := Lib.hid (show inter x p = crt F (k + 1) by rw [crt_succ hx2, HX.out])
          have hil := inter_len x p
          have u5 := (IL.of_own hown).1
          clear HX hx2 hown
          go_wp2_with fail
          refine (l1Intersect_any _ _ _ _ _ _ _ u5 hil2 (by omega) hpl).mono ?_
          rintro e w6 ⟨A6, c6, rfl, o6, b6⟩
          have D := Lib.hid (And.intro (own_base o6 hbel.size) (below_step hbel b6))
          clear o6 b6 hbel u5 hil2
          generalize inter x p = z at *
          go_wp2
          go_roundw
          case rel => exact ⟨k + 1, z, A6, c6, by omega, by omega, by go_num, rfl, HX2, by omega, D.out.1, D.out.2⟩
          case measure => simp [intOf]; omega
        · have hkl : k = F.length := by omega
          subst hkl
          have D := Lib.hid (show New w (crt F F.length) (.returned (.slice A5 x.length c5)) wr by rw [← HX.out]; exact ⟨A5, c5, rfl, hown, hbel⟩)
          clear HX hown hbel
          go_wp2
          go_ret
          exact D.out

theorem minus_all {s : List Int} (hs : vld s = true) : both minus (mem 63) s = mem (andNot 63 (msk s)) := by
  rw [both_t (vld_mem (by omega)) hs]
  exact all_of (P := fun s => minus (mem 63) s = mem (andNot 63 (msk s))) (by decide +kernel) hs

set_option maxRecDepth 100000 in
set_option maxHeartbeats 1600000 in
theorem specSurv_any (A B : Option Addr) (c d : Nat) (F : List (List Int)) (s : List Int) (w : World) (ha : ISS w A F) (hb : IL w B s) (hl : F.length ≤ 1048576) (hs : Short F 1048576) (hls : s.length ≤ 1048576) :
    Calls Try.prog 44 #[.slice A F.length c, .slice B s.length d] w fun e w' => e = .returned (.bool (srvR F s)) ∧ Below w.heap.size w w' := by
  cases hf : famOk F
  · have HF := Lib.hid hf
    have HB := Lib.hid (show srvR F s = false by simp [srvR, hf])
    clear hf
    go_enter Try.func44, Try.ntmps44
    go_wp2_with fail
    refine (specFam_any _ _ _ _ ha hl hs).mono ?_
    rintro e w1 ⟨he, hd1⟩
    rw [HF.out] at he
    subst he
    go_wp2
    go_ret
    exact ⟨ret_bool HB.out.symm, hd1.below⟩
  · cases hv : vld s
    · have HF := Lib.hid (And.intro hf hv)
      have HB := Lib.hid (show srvR F s = false by simp [srvR, hv])
      clear hf hv
      go_enter Try.func44, Try.ntmps44
      go_wp2_with fail
      refine (specFam_any _ _ _ _ ha hl hs).mono ?_
      rintro e w1 ⟨he, hd1⟩
      rw [HF.out.1] at he
      subst he
      have hb1 := hb.below hd1.below
      go_wp2_with fail
      refine (specValid_drew _ _ _ _ hb1 hls).mono ?_
      rintro e w2 ⟨he, hd2⟩
      rw [HF.out.2] at he
      subst he
      have hd3 : Drew w w2 := hd1.trans hd2
      clear hd1 hd2 hb1
      go_wp2
      go_ret
      exact ⟨ret_bool HB.out.symm, hd3.below⟩
    · have HF := Lib.hid (And.intro hf hv)
      have h6 := andNot_lt (a := 63) (b := msk s) (by omega)
      have HB := Lib.hid (show srvR F s = hasL F (mem (andNot 63 (msk s))) by rw [hasL_m hf h6]; simp [srvR, hf, hv])
      have HM := Lib.hid (minus_all hv)
      have hml := mem_len (andNot 63 (msk s))
      have hm63 := mem_len 63
      clear hf hv h6
      go_enter Try.func44, Try.ntmps44
      go_wp2_with fail
      refine (specFam_any _ _ _ _ ha hl hs).mono ?_
      rintro e w1 ⟨he, hd1⟩
      rw [HF.out.1] at he
      subst he
      have hb1 := hb.below hd1.below
      go_wp2_with fail
      refine (specValid_drew _ _ _ _ hb1 hls).mono ?_
      rintro e w2 ⟨he, hd2⟩
      rw [HF.out.2] at he
      subst he
      have hd3 : Drew w w2 := hd1.trans hd2
      have hb2 := hd3.below
      clear hd1 hd2 hb1 hd3
      go_wp2_with fail
      refine (l1Masks_any _).mono ?_
      rintro e w' ⟨rfl, rfl⟩
      go_wp2_with fail
      refine (l1OfMask_any 63 _ (by omega)).mono ?_
      rintro e w3 ⟨A3, c3, rfl, o3, b3⟩
      have i3 := (IL.of_own o3).1
      have hb3 := below_step hb2 b3
      clear o3 b3 hb2
      go_wp2_with fail
      refine (specMinus_any _ _ _ _ _ _ _ i3 (hb.below hb3) (by omega) hls).mono ?_
      rw [HM.out]
      rintro e w4 ⟨A4, c4, rfl, o4, b4⟩
      have i4 := (IL.of_own o4).1
      have hb4 := below_step hb3 b4
      clear o4 b4 hb3 i3
      go_wp2_with fail
      refine (l3Has_any _ _ _ _ _ _ _ (ha.below hb4) i4 hl hs (by omega)).mono ?_
      rw [← HB.out]
      rintro e w5 ⟨rfl, rfl⟩
      go_wp2
      go_ret
      exact ⟨rfl, hb4⟩
end Go.Proofs.Ytoomaiclbblcdaa
