/- The reference model's products of quorum systems, by their contracts. -/
import Derived.Test.YtdanecbjmboehaaEithS
namespace Go.Proofs.Ytdanecbjmboehaa
open Go.RowKit

/-- The unions of a set of F and a set of G. -/
def uns (F G : List (List Int)) : List (List Int) := F.flatMap fun a => G.map fun b => union a b
theorem uns_take {F G : List (List Int)} {k : Nat} {l : List Int} (h : F[k]? = some l) : uns (F.take (k + 1)) G = uns (F.take k) G ++ G.map fun b => union l b := by
  rw [take_l h]; simp [uns]
theorem uns_len (F G : List (List Int)) : (uns F G).length = F.length * G.length := by
  induction F with
  | nil => simp [uns]
  | cons a F ih => simp only [uns, List.flatMap_cons, List.length_append, List.length_map, List.length_cons, Nat.succ_mul] at ih ⊢; omega
theorem msk_union {a b : List Int} (ha : vld a = true) (hb : vld b = true) : msk (union a b) = msk a ||| msk b := by
  rw [← union_msk ha hb, msk_mem (or_lt (msk_lt ha) (msk_lt hb))]
theorem uns_msks {F G : List (List Int)} (hF : allV F) (hG : allV G) : msks (uns F G) = bothM F G := by
  unfold bothM
  induction F with
  | nil => rfl
  | cons a F ih =>
    have h1 := ih (fun l hl => hF l (by simp [hl]))
    simp only [uns, msks, List.flatMap_cons, List.map_append, List.map_cons, List.map_map] at h1 ⊢
    rw [h1]
    congr 1
    exact List.map_congr_left fun b hb => msk_union (hF a (by simp)) (hG b hb)
theorem uns_allV (F G : List (List Int)) : allV (uns F G) := by
  intro l hl
  obtain ⟨a, _, h5⟩ := List.mem_flatMap.1 hl
  obtain ⟨b, _, rfl⟩ := List.mem_map.1 h5
  exact vld_un a b
theorem uns_short (F G : List (List Int)) : Short (uns F G) 1048576 := by
  intro l hl
  obtain ⟨a, _, h5⟩ := List.mem_flatMap.1 hl
  obtain ⟨b, _, rfl⟩ := List.mem_map.1 h5
  have := union_len a b
  omega

set_option maxRecDepth 100000 in
set_option maxHeartbeats 1600000 in
theorem l3Both_any (A B : Option Addr) (c d : Nat) (F G : List (List Int)) (w : World) (ha : ISS w A F) (hb : ISS w B G) (hlf : F.length ≤ 20) (hlg : G.length ≤ 20) (hsf : Short F 1048576) (hsg : Short G 1048576) :
    Calls Try.prog 75 #[.slice A F.length c, .slice B G.length d] w (NewSS w (mems (mins (msks (uns F G))))) := by
  obtain ⟨i0, hi0, hz0, hz1, hz2⟩ := info_parts slice_info
  have h00 : (w.alloc (.cells #[] 28)).ownsRow w.heap.size 28 1 (.slice (some ⟨w.heap.size, 0, none⟩) 0 0) 0 [] := World.ownsRow_made w #[] 0 (Nat.le_refl _) (by unfold maxLen; omega) (by simp)
  have hb00 : Below w.heap.size w (w.alloc (.cells #[] 28)) := (Below.refl _ w).alloc (Nat.le_refl _) _
  have H00 := Lib.hid (And.intro h00 hb00)
  clear h00 hb00
  go_enter Try.func75, Try.ntmps75
  go_wp2
  go_loopw [5, 6] (fun v i wr => ∃ (k : Nat) (rs : List Value) (A5 : Option Addr) (c5 : Nat), k ≤ F.length ∧ i = .int .i64 k ∧ v = .slice A5 rs.length c5 ∧ wr.ownsRow w.heap.size 28 1 (.slice A5 rs.length c5) rs.length rs ∧ Hid (Rws wr w.heap.size wr.heap.size (uns (F.take k) G) rs) ∧ Below w.heap.size w wr) (fun _ i _ => F.length - (intOf i).toNat)
  case atStart => exact ⟨0, [], _, _, by omega, rfl, rfl, H00.out.1, Rws.nil _ _ _, H00.out.2⟩
  case round =>
    clear H00
    obtain ⟨k, rs, A5, c5, hk, rfl, rfl, hown, hrows, hbel⟩ := hrel
    by_cases hlt : k < F.length
    · obtain ⟨l, hx⟩ : ∃ l, F[k]? = some l := ⟨_, List.getElem?_eq_getElem hlt⟩
      have HX := Lib.hid hx
      have hll := hsf.at_ hx
      have H0 := Lib.hid (And.intro hown (And.intro hrows.out hbel))
      clear hx hown hrows hbel
      go_wp2
      go_loopw [5, 7] (fun v i wr => ∃ (j : Nat) (rs : List Value) (A5 : Option Addr) (c5 : Nat), j ≤ G.length ∧ i = .int .i64 j ∧ v = .slice A5 rs.length c5 ∧ wr.ownsRow w.heap.size 28 1 (.slice A5 rs.length c5) rs.length rs ∧ Hid (Rws wr w.heap.size wr.heap.size (uns (F.take k) G ++ (G.take j).map fun b => union l b) rs) ∧ Below w.heap.size w wr) (fun _ i _ => G.length - (intOf i).toNat)
      case atStart => exact ⟨0, rs, A5, c5, Nat.zero_le _, rfl, rfl, H0.out.1, (by show Rws _ _ _ _ _; simpa using H0.out.2.1), H0.out.2.2⟩
      case round =>
        clear H0
        obtain ⟨j, rs, A5, c5, hj, rfl, rfl, hown, hrows, hbel⟩ := hrel
        by_cases hjt : j < G.length
        · obtain ⟨b1, off1, l', B1, d1, rfl, hx1, hc1, hil1⟩ := (ha.below hbel).at_ hlt
          obtain rfl : l = l' := by have := HX.out; rw [this] at hx1; injection hx1
          obtain ⟨b2, off2, m, B2, d2, rfl, hx2, hc2, hil2⟩ := (hb.below hbel).at_ hjt
          have hlm := hsg.at_ hx2
          have HX2 := Lib.hid hx2
          clear hx1 hx2
          have hki : (0 : Int) ≤ (k : Int) := by omega
          have hki2 : (k : Int) < (F.length : Int) := by omega
          have hji : (0 : Int) ≤ (j : Int) := by omega
          have hji2 : (j : Int) < (G.length : Int) := by omega
          have hrl : rs.length ≤ 400 := by
            have h1 := hrows.out.1
            rw [List.length_append, uns_len, List.length_map, List.length_take, List.length_take, Nat.min_eq_left (by omega), Nat.min_eq_left (by omega)] at h1
            have : k * G.length ≤ 19 * 20 := Nat.mul_le_mul (by omega) hlg
            omega
          have hdw : Below wr.heap.size wr wr.drew := (Below.refl _ _).drew
          have HI := Lib.hid (fun (W : World) (hbW : Below wr.heap.size wr W) => l1Union_any B1 B2 d1 d2 l m W (hil1.below hbW) (hil2.below hbW) hll hlm)
          have h63 : rs.length + 1 ≤ maxLen := by unfold maxLen; omega
          have hby : (rs.length + 1) * 24 ≤ 140737488355328 := by omega
          have hsw := hbel.size
          go_wp2_with fail
          go_region_law (first
            | (refine step_append_own _ (by rfl) (.tmp 21) (.tmp 31) 23 (by rfl) w.heap.size 28 i0 (.slice none 0 0) 1 24 Try.underlying23 hi0 hz0 hz1 hz2 rfl (by decide) (.slice A5 rs.length c5) rs.length rs (by rfl) (own2.alloc _) ⟨w2.heap.size, 0, none⟩ 1 1 [.slice A2 (union l m).length c2] (by rfl) (by rfl) (World.news_of_block (cs := #[.slice A2 (union l m).length c2]) (t := 28) (fr := (0, 0)) (heap_alloc_new w2 _)) (slice_oneCell _ _ _) h63 hby hsz2 ?_; intro v3 w3 hown3 hgrow3)
            | (go_simp; go_at_call 96; refine (HI.out _ hdw).mono ?_; rintro e w2 ⟨A2, c2, rfl, o2, bb2⟩; have b2w := below_step hdw bb2; have own2 := own_at hown (w' := w2) fun g hg => b2w.block g (hown.lt g hg).2; have hs2 := b2w.size; have hsz2 : w.heap.size ≤ (w2.alloc (.cells #[.slice A2 (union l m).length c2] 28)).heap.size := (by simp; omega))
            | fail)
          all_goals have R := Lib.hid (show ∃ rs' A6 c6, v3 = Value.slice A6 (List.length rs') c6 ∧ w3.ownsRow w.heap.size 28 1 (.slice A6 (List.length rs') c6) (List.length rs') rs' ∧ Rws w3 w.heap.size w3.heap.size (uns (F.take k) G ++ (G.take (j + 1)).map fun b => union l b) rs' ∧ Below w.heap.size w w3 by
            have h3 : w3.ownsRow w.heap.size 28 1 v3 (rs ++ [Value.slice A2 (union l m).length c2]).length (rs ++ [Value.slice A2 (union l m).length c2]) := by simpa using hown3
            obtain ⟨A6, c6, h4⟩ := own_slice h3
            refine ⟨_, A6, c6, h4, by rw [← h4]; exact h3, ?_, app_gen own2 (Nat.le_refl _) (below_step hbel b2w) hgrow3⟩
            rw [take_l HX2.out, List.map_append, ← List.append_assoc]
            exact rows_app (hrows.out.below (Nat.le_refl _) b2w) (show RowAt w2 wr.heap.size w2.heap.size (union l m) (.slice A2 (union l m).length c2) from ⟨_, _, rfl, Own.of_new o2⟩) (Nat.le_refl _) hsw hs2 own2 hgrow3)
          all_goals obtain ⟨rs', A6, c6, rfl, R2⟩ := R.out
          all_goals have HR2 := Lib.hid R2
          all_goals clear R R2 hown3 hgrow3 own2 b2w bb2 o2 hown hrows hbel HI hc1 hc2 hil1 hil2 hdw
          all_goals go_wp2
          all_goals (go_roundw; (case rel => exact ⟨j + 1, rs', A6, c6, by omega, by go_num, rfl, HR2.out⟩); (case measure => simp [intOf]; omega))
        · have hjl : j = G.length := by omega
          subst hjl
          have HR := Lib.hid (show wr.ownsRow w.heap.size 28 1 (.slice A5 rs.length c5) rs.length rs ∧ Rws wr w.heap.size wr.heap.size (uns (F.take (k + 1)) G) rs ∧ Below w.heap.size w wr from
            ⟨hown, by rw [uns_take HX.out]; have := hrows.out; rwa [List.take_length] at this, hbel⟩)
          clear hown hrows hbel
          go_wp2
          go_roundw
          case rel => exact ⟨k + 1, rs, A5, c5, by omega, by go_num, rfl, HR.out⟩
          case measure => simp [intOf]; omega
    · have hkl : k = F.length := by omega
      subst hkl
      have hul := uns_len F G
      have hlen : (uns F G).length ≤ 1048576 := by
        rw [hul]
        have : F.length * G.length ≤ 20 * 20 := Nat.mul_le_mul hlf hlg
        omega
      have h1 := hrows.out
      rw [List.take_length] at h1
      have hrl : rs.length = (uns F G).length := h1.1
      rw [hrl] at hown ⊢
      have hiss : ISS wr A5 (uns F G) := h1.iss hown fun _ _ h => h
      have hV := uns_allV F G
      have hS := uns_short F G
      have HV := Lib.hid hV
      clear hown hrows h1 hrl hul hV
      generalize uns F G = U at *
      go_wp2_with fail
      refine (l3Min_any _ _ _ _ hiss hlen hS HV.out).mono ?_
      rintro e w1 ⟨A7, c7, rfl, o7, b7⟩
      have HR := Lib.hid (show NewSS w (mems (mins (msks U))) (.returned (.slice A7 (mems (mins (msks U))).length c7)) w1 from ⟨A7, c7, rfl, o7.base hbel.size, below_step hbel b7⟩)
      clear o7 b7
      go_wp2
      go_ret
      exact HR.out

set_option maxRecDepth 100000 in
set_option maxHeartbeats 800000 in
theorem specBoth_any (A B : Option Addr) (c d : Nat) (F G : List (List Int)) (w : World) (ha : ISS w A F) (hb : ISS w B G) (hlf : F.length ≤ 1048576) (hlg : G.length ≤ 1048576) (hsf : Short F 1048576) (hsg : Short G 1048576) :
    Calls Try.prog 40 #[.slice A F.length c, .slice B G.length d] w (NewSS2 w (outM (bothM F G) (bothOk F G)) (bothOk F G)) := by
  cases hf : famOk F
  · have HF := Lib.hid hf
    have HB := Lib.hid (show bothOk F G = false by simp [bothOk, hf])
    clear hf
    go_enter Try.func40, Try.ntmps40
    go_wp2_with fail
    refine (specFam_any _ _ _ _ ha hlf hsf).mono ?_
    rintro e w1 ⟨he, hd1⟩
    rw [HF.out] at he
    subst he
    go_wp2
    go_ret2
    rw [HB.out, outM]
    exact NewSS2.made hd1.below
  · cases hg : famOk G
    · have HF := Lib.hid hf
      have HG := Lib.hid hg
      have HB := Lib.hid (show bothOk F G = false by simp [bothOk, hg])
      clear hf hg
      go_enter Try.func40, Try.ntmps40
      go_wp2_with fail
      refine (specFam_any _ _ _ _ ha hlf hsf).mono ?_
      rintro e w1 ⟨he, hd1⟩
      rw [HF.out] at he
      subst he
      go_wp2_with fail
      refine (specFam_any _ _ _ _ (hb.below hd1.below) hlg hsg).mono ?_
      rintro e w2 ⟨he, hd2⟩
      rw [HG.out] at he
      subst he
      have hd := hd1.trans hd2
      clear hd1 hd2
      go_wp2
      go_ret2
      rw [HB.out, outM]
      exact NewSS2.made hd.below
    · have HF := Lib.hid hf
      have HG := Lib.hid hg
      have HB := Lib.hid (show bothOk F G = true by simp [bothOk, hf, hg])
      have hlf2 := famOk_len hf
      have hlg2 := famOk_len hg
      have HU := Lib.hid (uns_msks (famOk_allV hf) (famOk_allV hg))
      clear hf hg
      go_enter Try.func40, Try.ntmps40
      go_wp2_with fail
      refine (specFam_any _ _ _ _ ha hlf hsf).mono ?_
      rintro e w1 ⟨he, hd1⟩
      rw [HF.out] at he
      subst he
      go_wp2_with fail
      refine (specFam_any _ _ _ _ (hb.below hd1.below) hlg hsg).mono ?_
      rintro e w2 ⟨he, hd2⟩
      rw [HG.out] at he
      subst he
      have hbel := (hd1.trans hd2).below
      clear hd1 hd2
      go_wp2_with fail
      refine (l3Both_any _ _ _ _ _ _ _ (ha.below hbel) (hb.below hbel) hlf2 hlg2 hsf hsg).mono ?_
      rintro e w5 ⟨A5, c5, rfl, o5, b5⟩
      have HR := Lib.hid (show NewSS2 w (outM (bothM F G) (bothOk F G)) (bothOk F G) (.returned (.tuple #[.slice A5 (mems (mins (msks (uns F G)))).length c5, .bool true])) w5 by
        rw [HU.out] at *
        rw [HB.out, outM]
        exact ⟨A5, c5, rfl, o5.base hbel.size, below_step hbel b5⟩)
      clear o5 b5
      go_wp2
      go_ret2
      exact HR.out
theorem outM_len (M : List Nat) (b : Bool) : (outM M b).length ≤ 64 := by
  unfold outM
  split
  · rw [mems_len]; exact mins_len _
  · simp
theorem outM_wt (M : List Nat) (b : Bool) : wt (outM M b) ≤ 384 := by
  unfold outM
  split
  · exact Nat.le_trans (mems_wt _) (by have := mins_len M; omega)
  · simp [wt]
theorem outM_short (M : List Nat) (b : Bool) : Short (outM M b) 1048576 := by
  unfold outM
  split
  · exact mems_short _ _ (by omega)
  · intro l hl; cases hl
end Go.Proofs.Ytdanecbjmboehaa
