/- The walk of the exact law on RunNew. -/
import Derived.Test.YtbkdhjmfphhhoaaRnIg
import Derived.Test.YtbkdhjmfphhhoaaHdRg
import Derived.Test.YtbkdhjmfphhhoaaGk
import Derived.Test.YtbkdhjmfphhhoaaGm
namespace Go.Proofs.Ytbkdhjmfphhhoaa
open Go.RowKit

theorem wt_six (F : List (List Int)) (h : ∀ l ∈ F, l.length ≤ 6) : wt F ≤ 6 * F.length := by
  induction F with
  | nil => simp [wt]
  | cons a F ih =>
    have h1 := h a (by simp)
    have h2 := ih fun l hl => h l (by simp [hl])
    simp only [wt, List.map_cons, List.sum_cons, List.length_cons] at h2 ⊢
    omega
theorem famOk_wt {F : List (List Int)} (h : famOk F = true) : wt F ≤ 120 := by
  have h1 := famOk_len h
  have h2 := wt_six F fun l hl => by
    obtain ⟨k, hk⟩ := List.mem_iff_getElem?.1 hl
    exact vld_len (fam_row h hk).1
  omega
theorem rsz_new (F G : List (List Int)) : rsz (runNew F G) ≤ 1048576 := by
  unfold runNew
  cases hc : cmpOk F G
  · rw [if_neg (by simp)]
    decide
  · obtain ⟨h1, h2, _, _⟩ := cmpOk_parts hc
    have a1 := famOk_len h1
    have a2 := famOk_len h2
    have a3 := famOk_wt h1
    have a4 := famOk_wt h2
    simp only [if_true, rsz, newR, List.length_replicate, pvs, List.map_nil, wt, List.sum_nil, List.length_nil] at a3 a4 ⊢
    omega
theorem SZ.fits {q n : Nat} {r : Int} (h : SZ q n r) (h0 : ¬ r < 0) : n ≤ q := by
  rcases h with h | ⟨k, h, h2⟩ <;> omega
theorem mem_wt {F : List (List Int)} {l : List Int} (h : l ∈ F) : l.length ≤ wt F := by
  induction F with
  | nil => cases h
  | cons a F ih =>
    simp only [wt, List.map_cons, List.sum_cons] at ih ⊢
    rcases List.mem_cons.1 h with rfl | h
    · omega
    · have := ih h; omega
theorem short_of_wt {F : List (List Int)} {n : Nat} (h : wt F ≤ n) : Short F n := fun l hl => Nat.le_trans (mem_wt hl) h
theorem markRun_k1 (lo hi : Nat) (A B C D : Option Addr) (c d e f : Nat) (r : Rn) (w : World) (h : ORun w lo hi A B C D c d e f r) (hl : rsz r ≤ 1048576) :
    Calls Try.prog 40 #[RVal A B C D c d e f r, .int .i64 1] w fun x w' =>
      ∃ n : Nat, x = .returned (.int .i64 (n : Int)) ∧ n = 1 + wtR r ∧ ORun w' lo hi A B C D c d e f (markR 1 r) ∧ Keep lo hi w w' := by
  refine (markRun_own lo hi A B C D c d e f r 1 1 rfl w h hl (Nat.le_refl _)).mono ?_
  rintro x w' ⟨rfl, h1, h2⟩
  refine ⟨1 + wtR r, ret_int ?_, rfl, h1, h2⟩
  unfold wtR
  omega

/-- What is old: the argument's box, the model's result. -/
def OldN (w W : World) (b : Nat) (p q : Value) (A B C D : Option Addr) (c d e f : Nat) (r : Rn) : Prop :=
  (W.heap[w.heap.size]? = some (.cells #[p, q] 61 (0, 0)) ∧ w.heap.size < W.heap.size) ∧
  RB W b (.slice A r.P.length c) (.slice B r.Q.length d) (.slice C r.ac.length e) (.slice D r.pr.length f) ∧ Reads W A B C D r ∧ Below w.heap.size w W
section
variable {w W W' : World} {b : Nat} {p q : Value} {A B C D : Option Addr} {c d e f : Nat} {r : Rn}
theorem OldN.below (h : OldN w W b p q A B C D c d e f r) (hb : Below W.heap.size W W') : OldN w W' b p q A B C D c d e f r :=
  ⟨⟨(hb.block _ h.1.2).trans h.1.1, Nat.lt_of_lt_of_le h.1.2 hb.size⟩, h.2.1.below hb, h.2.2.1.below hb, below_step h.2.2.2 hb⟩
theorem OldN.c0 (h : OldN w W b p q A B C D c d e f r) : W.cell? ⟨w.heap.size, 0, none⟩ = some p := by rw [cell_of_row _ _ 0 _ _ (0, 0) h.1.1]; rfl
theorem OldN.c1 (h : OldN w W b p q A B C D c d e f r) : W.cell? ⟨w.heap.size, 1, none⟩ = some q := by rw [cell_of_row _ _ 1 _ _ (0, 0) h.1.1]; rfl
end

set_option maxRecDepth 100000 in
set_option maxHeartbeats 12800000 in
theorem walkRnw (A B : Option Addr) (c d : Nat) (F G : List (List Int)) (w : World) (ha : ISS w A F) (hb : ISS w B G) (hF : F.length ≤ maxLen) (sF : Short F maxLen) (hG : G.length ≤ maxLen) (sG : Short G maxLen) :
    Calls Try.prog 9 #[.agg #[.slice A F.length c, .slice B G.length d]] w fun e w' => e = .returned (.bool true) ∧ Below w.heap.size w w' := by
  have ba : Below w.heap.size w (w.alloc (.cells #[.slice A F.length c, .slice B G.length d] 61)) := (Below.refl _ w).alloc (Nat.le_refl _) _
  have rb : (w.alloc (.cells #[.slice A F.length c, .slice B G.length d] 61)).heap[w.heap.size]? = some (.cells #[.slice A F.length c, .slice B G.length d] 61 (0, 0)) ∧ w.heap.size < (w.alloc (.cells #[.slice A F.length c, .slice B G.length d] 61)).heap.size := ⟨heap_alloc_new w _, by simp⟩
  obtain ⟨r, hr⟩ : ∃ r, r = runNew F G := ⟨_, rfl⟩
  obtain ⟨t, ht⟩ : ∃ t, t = cmpOk F G := ⟨_, rfl⟩
  have HRL := Lib.hid (show rsz r ≤ 1048576 by rw [hr]; exact rsz_new F G)
  have IA := Lib.hid (fun W (hW : Below w.heap.size w W) => ha.below hW)
  have IB := Lib.hid (fun W (hW : Below w.heap.size w W) => hb.below hW)
  have H := Lib.hid (And.intro hF (And.intro sF (And.intro hG sG)))
  have HE := Lib.hid (And.intro hr ht)
  clear ha hb hF sF hG sG hr ht
  go_enter Try.func9, Try.ntmps9
  go_wp2_with fail
  refine (szConfig_any _ _ _ _ 1048576 _ _ _ (IA.out _ ba) (IB.out _ ba) H.out.1 H.out.2.1 H.out.2.2.1 H.out.2.2.2 (Nat.le_refl _)).mono ?_
  rintro e w1 ⟨x, rfl, hx, b1⟩
  have B1 := below_step ba b1
  have r1 := And.intro ((b1.block _ rb.2).trans rb.1) (Nat.lt_of_lt_of_le rb.2 b1.size)
  clear ba b1 rb
  by_cases h0 : x < 0
  · clear hx
    go_wp2
    go_ret
    exact ⟨rfl, B1⟩
  · have hfit := hx.fits h0
    have HL := Lib.hid (show F.length ≤ 1048576 ∧ Short F 1048576 ∧ G.length ≤ 1048576 ∧ Short G 1048576 ∧ wt F ≤ 1048576 ∧ wt G ≤ 1048576 from ⟨by omega, short_of_wt (by omega), by omega, short_of_wt (by omega), by omega, by omega⟩)
    have q0 : w1.cell? ⟨w.heap.size, 0, none⟩ = some (.slice A F.length c) := by rw [cell_of_row _ _ 0 _ _ (0, 0) r1.1]; rfl
    have q1 : w1.cell? ⟨w.heap.size, 1, none⟩ = some (.slice B G.length d) := by rw [cell_of_row _ _ 1 _ _ (0, 0) r1.1]; rfl
    clear hx hfit
    go_wp2_with fail
    refine (toConfig_any _ _ _ _ _ _ _ (IA.out _ B1) (IB.out _ B1) HL.out.1 HL.out.2.1 HL.out.2.2.1 HL.out.2.2.2.1).mono ?_
    rintro e w2 ⟨g2, g2', m2, rfl, _, _, o2, p2, b2⟩
    have B2 := below_step B1 b2
    have r2 := And.intro ((b2.block _ r1.2).trans r1.1) (Nat.lt_of_lt_of_le r1.2 b2.size)
    clear q0 q1 B1 b2 r1
    go_wp2_with fail
    refine (sRunNew_any _ _ _ _ _ _ _ o2.iss p2.iss HL.out.1 HL.out.2.1 HL.out.2.2.1 HL.out.2.2.2.1).mono ?_
    rintro e w3 ⟨A1, B1, C1, D1, c1, d1, e1, f1, rfl, rd3, b3⟩
    rw [← HE.out.1] at rd3 ⊢
    rw [← HE.out.2]
    have ba4 := (Below.refl _ w3).alloc (Nat.le_refl w3.heap.size) (.cells #[.slice A1 r.P.length c1, .slice B1 r.Q.length d1, .slice C1 r.ac.length e1, .slice D1 r.pr.length f1] 30)
    have k4 := RB.new w3 (.slice A1 r.P.length c1) (.slice B1 r.Q.length d1) (.slice C1 r.ac.length e1) (.slice D1 r.pr.length f1) 30
    have ON := Lib.hid (show OldN w (w3.alloc (.cells #[.slice A1 r.P.length c1, .slice B1 r.Q.length d1, .slice C1 r.ac.length e1, .slice D1 r.pr.length f1] 30)) w3.heap.size (.slice A F.length c) (.slice B G.length d) A1 B1 C1 D1 c1 d1 e1 f1 r from
      ⟨And.intro ((ba4.block _ (Nat.lt_of_lt_of_le r2.2 b3.size)).trans ((b3.block _ r2.2).trans r2.1)) (Nat.lt_of_lt_of_le (Nat.lt_of_lt_of_le r2.2 b3.size) ba4.size), k4, rd3.below ba4, below_step (below_step B2 b3) ba4⟩)
    have hs4 : w3.heap.size + 1 ≤ (w3.alloc (.cells #[.slice A1 r.P.length c1, .slice B1 r.Q.length d1, .slice C1 r.ac.length e1, .slice D1 r.pr.length f1] 30)).heap.size := by simp
    clear o2 p2 rd3 b3 ba4 k4 B2 r2
    have q0 := ON.out.c0
    have q1 := ON.out.c1
    unfold RVal
    go_wp2_with fail
    generalize w3.alloc (.cells #[.slice A1 r.P.length c1, .slice B1 r.Q.length d1, .slice C1 r.ac.length e1, .slice D1 r.pr.length f1] 30) = w4 at ON hs4 q0 q1 ⊢
    refine (toConfig_any _ _ _ _ _ _ _ (IA.out _ ON.out.2.2.2) (IB.out _ ON.out.2.2.2) HL.out.1 HL.out.2.1 HL.out.2.2.1 HL.out.2.2.2.1).mono ?_
    rintro e w5 ⟨g5, g5', m5, rfl, y1, y2, o5, p5, b5⟩
    have ba6 := (Below.refl _ w5).alloc (Nat.le_refl w5.heap.size) (.cells #[.slice (some ⟨g5, 0, none⟩) F.length F.length, .slice (some ⟨g5', 0, none⟩) G.length G.length] 25)
    have cb6 := CB.new w5 (.slice (some ⟨g5, 0, none⟩) F.length F.length) (.slice (some ⟨g5', 0, none⟩) G.length G.length)
    have o6 := o5.below ba6
    have p6 := p5.below ba6
    have BF6 := below_step b5 ba6
    have hs6 : w5.heap.size + 1 ≤ (w5.alloc (.cells #[.slice (some ⟨g5, 0, none⟩) F.length F.length, .slice (some ⟨g5', 0, none⟩) G.length G.length] 25)).heap.size := by simp
    have hs5 := b5.size
    clear q0 q1 o5 p5 b5 ba6
    go_wp2_with fail
    generalize w5.alloc (.cells #[.slice (some ⟨g5, 0, none⟩) F.length F.length, .slice (some ⟨g5', 0, none⟩) G.length G.length] 25) = w6 at BF6 hs6 cb6 o6 p6 ⊢
    refine (implNew_any _ _ _ _ _ _ _ o6.iss p6.iss HL.out.1 HL.out.2.1 HL.out.2.2.1 HL.out.2.2.2.1).mono ?_
    rintro e w7 ⟨A2, B2, C2, D2, c2, d2, e2, f2, rfl, og7, b7⟩
    rw [← HE.out.1] at og7 ⊢
    rw [← HE.out.2]
    have ba8 := (Below.refl _ w7).alloc (Nat.le_refl w7.heap.size) (.cells #[.slice A2 r.P.length c2, .slice B2 r.Q.length d2, .slice C2 r.ac.length e2, .slice D2 r.pr.length f2] 30)
    have k8 := RB.new w7 (.slice A2 r.P.length c2) (.slice B2 r.Q.length d2) (.slice C2 r.ac.length e2) (.slice D2 r.pr.length f2) 30
    have BF8 := below_step (below_step BF6 b7) ba8
    have ON8 := Lib.hid (ON.out.below BF8)
    have cb8 := (cb6.below b7).below ba8
    have o8 := (o6.below b7).below ba8
    have p8 := (p6.below b7).below ba8
    have og8 := og7.below ba8
    have hs7 := b7.size
    have hs8 : w7.heap.size + 1 ≤ (w7.alloc (.cells #[.slice A2 r.P.length c2, .slice B2 r.Q.length d2, .slice C2 r.ac.length e2, .slice D2 r.pr.length f2] 30)).heap.size := by simp
    clear og7 b7 ba8 cb6 o6 p6 BF6
    have u0 := ON8.out.2.1.c0
    have u1 := ON8.out.2.1.c1
    have u2 := ON8.out.2.1.c2
    have u3 := ON8.out.2.1.c3
    unfold RVal
    go_wp2_with fail
    generalize w7.alloc (.cells #[.slice A2 r.P.length c2, .slice B2 r.Q.length d2, .slice C2 r.ac.length e2, .slice D2 r.pr.length f2] 30) = w8 at BF8 ON8 hs8 cb8 o8 p8 og8 k8 u0 u1 u2 u3 ⊢
    refine (eqRun_yes _ _ _ _ _ _ _ _ _ _ _ _ _ _ _ _ r _ og8.reads ON8.out.2.2.1 (rsz_len HRL.out)).mono ?_
    rintro e w9 ⟨rfl, b9⟩
    have BF9 := below_step BF8 b9
    have ON9 := Lib.hid (ON.out.below BF9)
    have cb9 := cb8.below b9
    have o9 := o8.below b9
    have p9 := p8.below b9
    have og9 := og8.below b9
    have k9 := k8.below b9
    have hs9 := b9.size
    clear ON8 BF8 cb8 o8 p8 og8 k8 b9 u0 u1 u2 u3
    have v0 := cb9.c0
    have v1 := cb9.c1
    have q0 := ON9.out.c0
    have q1 := ON9.out.c1
    have C1 := fun n => toConfig_any A B c d F G (w9.drewN n) (IA.out _ (below_drewN ON9.out.2.2.2 n)) (IB.out _ (below_drewN ON9.out.2.2.2 n)) HL.out.1 HL.out.2.1 HL.out.2.2.1 HL.out.2.2.2.1
    go_wp2
    go_region_law (first
      | (go_simp; go_at_call 36; refine (C1 _).mono ?_; rintro e wa ⟨ga, ga', ma, rfl, _, _, oa, pa, bx⟩; have ba : Below w9.heap.size w9 wa := ⟨bx.os, bx.tape, bx.output, bx.size, bx.block⟩; have va := (cb9.below ba).c0; have va' := (cb9.below ba).c1)
      | (go_simp; go_at_call 38; refine (eqConfig_yes _ _ _ _ _ _ _ _ F G _ (o9.below ba).iss (p9.below ba).iss oa.iss pa.iss HL.out.1 HL.out.2.1 HL.out.2.2.1 HL.out.2.2.2.1).mono ?_; rintro e wb ⟨rfl, bb⟩)
      | fail)
    all_goals (
      have bab := below_step ba bb
      have BF10 := below_step BF9 bab
      have cb10 := cb9.below bab
      have o10 := o9.below bab
      have p10 := p9.below bab
      have og10 := og9.below bab
      have k10 := k9.below bab
      have hs10 := bab.size
      clear ON9 BF9 cb9 o9 p9 og9 k9 ba bb bab bx oa pa va va' v0 v1 q0 q1 C1
      have v0 := cb10.c0
      have v1 := cb10.c1
      go_wp2_with fail
      refine (markConfig_own _ _ _ _ _ _ _ F G 1 1 rfl _ o10 p10 y1 y2 HL.out.1 HL.out.2.2.2.2.1 HL.out.2.2.1 HL.out.2.2.2.2.2 (by have := HL.out.2.2.2.2.1; omega)).mono ?_
      rintro e w11 ⟨rfl, _, _, kp⟩
      have BF11 := below_keep BF10 kp (Nat.le_refl _)
      have ON11 := Lib.hid (ON.out.below BF11)
      have og11 := og10.keep kp (.inr (by omega))
      have k11 := k10.kept (kp.block _ k10.lt (by omega))
      have hs11 := kp.size
      have n0 : decide ((1 : Int) + (wt F : Int) + (wt G : Int) < 0) = false := by simp; omega
      clear cb10 o10 p10 og10 k10 kp BF10 v0 v1
      have u0 := ON11.out.2.1.c0
      have u1 := ON11.out.2.1.c1
      have u2 := ON11.out.2.1.c2
      have u3 := ON11.out.2.1.c3
      have x0 := k11.c0
      have x1 := k11.c1
      have x2 := k11.c2
      have x3 := k11.c3
      go_wp2_with fail
      refine (eqRun_yes _ _ _ _ _ _ _ _ _ _ _ _ _ _ _ _ r _ og11.reads ON11.out.2.2.1 (rsz_len HRL.out)).mono ?_
      rintro e w12 ⟨rfl, b12⟩
      have BF12 := below_step BF11 b12
      have og12 := og11.below b12
      have k12 := k11.below b12
      have hs12 := b12.size
      clear ON11 BF11 og11 k11 b12 u0 u1 u2 u3 x0 x1 x2 x3 n0
      have x0 := k12.c0
      have x1 := k12.c1
      have x2 := k12.c2
      have x3 := k12.c3
      go_wp2_with fail
      refine (markRun_k1 _ _ _ _ _ _ _ _ _ _ r _ og12 HRL.out).mono ?_
      rintro e w13 ⟨n, rfl, hn, og13, kq⟩
      have BF13 := below_keep BF12 kq (by omega)
      have k13 := k12.kept (kq.block _ k12.lt (by omega))
      have hs13 := kq.size
      clear og12 k12 kq BF12 x0 x1 x2 x3
      have x0 := k13.c0
      have x1 := k13.c1
      have x2 := k13.c2
      have x3 := k13.c3
      go_wp2_with fail
      refine (heldRun_k _ _ _ _ _ _ _ _ r _ og13.reads HRL.out).mono ?_
      rintro e w14 ⟨n', rfl, hn', b14⟩
      have hnn : n' = n := by omega
      subst hnn
      have BF14 := below_step BF13 b14
      have ON14 := Lib.hid (ON.out.below BF14)
      have og14 := og13.below b14
      have k14 := k13.below b14
      have hs14 := b14.size
      have n0 : decide ((n' : Int) < 0) = false := by simp
      clear og13 k13 b14 BF13 x0 x1 x2 x3 hn'
      have q0 := ON14.out.c0
      have q1 := ON14.out.c1
      go_wp2_with fail
      refine (toConfig_any _ _ _ _ _ _ _ (IA.out _ ON14.out.2.2.2) (IB.out _ ON14.out.2.2.2) HL.out.1 HL.out.2.1 HL.out.2.2.1 HL.out.2.2.2.1).mono ?_
      rintro e w15 ⟨g15, g15', m15, rfl, _, _, o15, p15, b15⟩
      have BF15 := below_step BF14 b15
      have og15 := og14.below b15
      have k15 := k14.below b15
      clear ON14 BF14 og14 k14 b15 q0 q1 n0
      go_wp2_with fail
      refine (implNew_any _ _ _ _ _ _ _ o15.iss p15.iss HL.out.1 HL.out.2.1 HL.out.2.2.1 HL.out.2.2.2.1).mono ?_
      rintro e w16 ⟨A3, B3, C3, D3, c3, d3, e3, f3, rfl, oh16, b16⟩
      rw [← HE.out.1] at oh16 ⊢
      rw [← HE.out.2]
      have ba17 := (Below.refl _ w16).alloc (Nat.le_refl w16.heap.size) (.cells #[.slice A3 r.P.length c3, .slice B3 r.Q.length d3, .slice C3 r.ac.length e3, .slice D3 r.pr.length f3] 30)
      have BF17 := below_step (below_step BF15 b16) ba17
      have ON17 := Lib.hid (ON.out.below BF17)
      have og17 := (og15.below b16).below ba17
      have k17 := (k15.below b16).below ba17
      have oh17 := oh16.below ba17
      clear o15 p15 BF15 og15 k15 oh16 b16 ba17
      have u0 := ON17.out.2.1.c0
      have u1 := ON17.out.2.1.c1
      have u2 := ON17.out.2.1.c2
      have u3 := ON17.out.2.1.c3
      unfold RVal
      go_wp2_with fail
      generalize w16.alloc (.cells #[.slice A3 r.P.length c3, .slice B3 r.Q.length d3, .slice C3 r.ac.length e3, .slice D3 r.pr.length f3] 30) = w17 at BF17 ON17 og17 k17 oh17 u0 u1 u2 u3 ⊢
      refine (eqRun_yes _ _ _ _ _ _ _ _ _ _ _ _ _ _ _ _ r _ oh17.reads ON17.out.2.2.1 (rsz_len HRL.out)).mono ?_
      rintro e w18 ⟨rfl, b18⟩
      have BF18 := below_step BF17 b18
      have og18 := og17.below b18
      have k18 := k17.below b18
      clear ON17 BF17 og17 k17 oh17 b18 u0 u1 u2 u3
      have x0 := k18.c0
      have x1 := k18.c1
      have x2 := k18.c2
      have x3 := k18.c3
      go_wp2_with fail
      refine (heldRun_k _ _ _ _ _ _ _ _ r _ og18.reads HRL.out).mono ?_
      rintro e w19 ⟨n'', rfl, hn'', b19⟩
      have hnn : n'' = n' := by omega
      subst hnn
      have n0 : decide ((n'' : Int) < 0) = false := by simp
      have HB := Lib.hid ((ON.out.below (below_step BF18 b19)).2.2.2)
      clear og18 k18 b19 BF18 x0 x1 x2 x3
      go_wp2
      go_ret
      exact ⟨rfl, HB.out⟩)
end Go.Proofs.Ytbkdhjmfphhhoaa
