/- spec.RunNew: a run laid anew, by its contract. -/
import Derived.Test.YtbkdhjmfphhhoaaGk
import Derived.Test.YtbkdhjmfphhhoaaGl
import Derived.Deep.RegionHeld3
import Derived.Deep.RegionLaw
namespace Go.Proofs.Ytbkdhjmfphhhoaa
open Go.RowKit

def nilR : Rn := ⟨[], [], [], []⟩
def runNew (F G : List (List Int)) : Rn := if cmpOk F G then newR F G else nilR
/-- A run handed back, and a sign: what it reads as. -/
def SaysR (w : World) (r : Rn) (b : Bool) (x : Ending) (w' : World) : Prop :=
  ∃ (A B C D : Option Addr) (c d e f : Nat), x = .returned (.tuple #[RVal A B C D c d e f r, .bool b]) ∧ Reads w' A B C D r ∧ Below w.heap.size w w'
/-- While it is laid: the configuration's box, the place for the result, the parts that are there. -/
def VN (w : World) (F G : List (List Int)) (p q : Value) (pA pB pC pD : Option Value) (W : World) : Prop :=
  Below w.heap.size w W ∧ CB W w.heap.size p q ∧ RB W (w.heap.size + 1) (.slice none 0 0) (.slice none 0 0) (.slice none 0 0) (.slice none 0 0) ∧ w.heap.size + 2 ≤ W.heap.size ∧
  (∀ v, pA = some v → ∃ A c hi, v = .slice A F.length c ∧ OSS W (w.heap.size + 2) hi A c F) ∧
  (∀ v, pB = some v → ∃ A c hi, v = .slice A G.length c ∧ OSS W (w.heap.size + 2) hi A c G) ∧
  (∀ v, pC = some v → ∃ A c hi, v = .slice A (List.replicate 6 ((0, 0, 0) : Ac)).length c ∧ OAS W (w.heap.size + 2) hi A c (List.replicate 6 (0, 0, 0))) ∧
  (∀ v, pD = some v → ∃ A c, v = .slice A 0 c)
section
variable {w W W' : World} {F G : List (List Int)} {p q : Value} {pA pB pC pD : Option Value}
theorem VN.below (h : VN w F G p q pA pB pC pD W) (hb : Below W.heap.size W W') : VN w F G p q pA pB pC pD W' := by
  obtain ⟨h1, h2, h3, h4, h5, h6, h7, h8⟩ := h
  refine ⟨below_step h1 hb, h2.below hb, h3.below hb, Nat.le_trans h4 hb.size, fun v e => ?_, fun v e => ?_, fun v e => ?_, h8⟩
  · obtain ⟨A, c, hi, x, y⟩ := h5 v e
    exact ⟨A, c, hi, x, y.below hb⟩
  · obtain ⟨A, c, hi, x, y⟩ := h6 v e
    exact ⟨A, c, hi, x, y.below hb⟩
  · obtain ⟨A, c, hi, x, y⟩ := h7 v e
    exact ⟨A, c, hi, x, y.below hb⟩
theorem VN.copyA (h : VN w F G p q none pB pC pD W) {A : Option Addr} {c : Nat} (ho : OSS W' W.heap.size W'.heap.size A c F) (hb : Below W.heap.size W W') : VN w F G p q (some (.slice A F.length c)) pB pC pD W' := by
  obtain ⟨h1, h2, h3, h4, h5, h6, h7, h8⟩ := h.below hb
  refine ⟨h1, h2, h3, h4, fun v e => ?_, h6, h7, h8⟩
  injection e with e
  exact ⟨A, c, W'.heap.size, e.symm, ho.base h.2.2.2.1⟩
theorem VN.copyB (h : VN w F G p q pA none pC pD W) {A : Option Addr} {c : Nat} (ho : OSS W' W.heap.size W'.heap.size A c G) (hb : Below W.heap.size W W') : VN w F G p q pA (some (.slice A G.length c)) pC pD W' := by
  obtain ⟨h1, h2, h3, h4, h5, h6, h7, h8⟩ := h.below hb
  refine ⟨h1, h2, h3, h4, h5, fun v e => ?_, h7, h8⟩
  injection e with e
  exact ⟨A, c, W'.heap.size, e.symm, ho.base h.2.2.2.1⟩
theorem VN.drew (h : VN w F G p q pA pB pC pD W) : VN w F G p q pA pB pC pD W.drew := h.below ((Below.refl _ _).drew)
theorem VN.empty (h : VN w F G p q pA pB pC none W) (T : Nat) : VN w F G p q pA pB pC (some (.slice (some ⟨W.heap.size, 0, none⟩) 0 0)) (W.alloc (.cells #[] T)) := by
  obtain ⟨h1, h2, h3, h4, h5, h6, h7, h8⟩ := h.below ((Below.refl _ _).alloc (Nat.le_refl _) (.cells #[] T))
  refine ⟨h1, h2, h3, h4, h5, h6, h7, fun v' e => ?_⟩
  injection e with e
  exact ⟨_, _, e.symm⟩
/-- What stays while it is laid: the configuration's box, the place for the result. -/
def SN (w : World) (p q : Value) (W : World) : Prop := CB W w.heap.size p q ∧ ∃ a b c d, RB W (w.heap.size + 1) a b c d
theorem VN.S (h : VN w F G p q pA pB pC pD W) : SN w p q W := ⟨h.2.1, _, _, _, _, h.2.2.1⟩
theorem SN.after (h : SN w p q W) (hb : Below W.heap.size W W') : SN w p q W' := by
  obtain ⟨h1, a, b, c, d, h2⟩ := h
  exact ⟨h1.below hb, a, b, c, d, h2.below hb⟩
theorem VN.made (h : VN w F G p q pA pB none pD W) {A : Option Addr} {c hi : Nat} (ho : OAS W' (w.heap.size + 2) hi A c (List.replicate 6 (0, 0, 0))) (hb : Below W.heap.size W W') : VN w F G p q pA pB (some (.slice A 6 c)) pD W' := by
  obtain ⟨h1, h2, h3, h4, h5, h6, h7, h8⟩ := h.below hb
  refine ⟨h1, h2, h3, h4, h5, h6, fun v e => ?_, h8⟩
  injection e with e
  exact ⟨A, c, hi, e.symm, ho⟩
theorem VN.fin {A B C D : Option Addr} {c d e f : Nat} (h : VN w F G p q (some (.slice A F.length c)) (some (.slice B G.length d)) (some (.slice C 6 e)) (some (.slice D 0 f)) W) :
    RB (setR W (w.heap.size + 1) (.slice A F.length c) (.slice B G.length d) (.slice C 6 e) (.slice D 0 f)) (w.heap.size + 1) (.slice A F.length c) (.slice B G.length d) (.slice C 6 e) (.slice D 0 f) ∧
    Reads (setR W (w.heap.size + 1) (.slice A F.length c) (.slice B G.length d) (.slice C 6 e) (.slice D 0 f)) A B C D (newR F G) ∧
    Below w.heap.size w (setR W (w.heap.size + 1) (.slice A F.length c) (.slice B G.length d) (.slice C 6 e) (.slice D 0 f)) ∧
    SN w p q (setR W (w.heap.size + 1) (.slice A F.length c) (.slice B G.length d) (.slice C 6 e) (.slice D 0 f)) := by
  obtain ⟨h1, h2, h3, h4, h5, h6, h7, h8⟩ := h
  have kr := setR_keep W (w.heap.size + 1) (.slice A F.length c) (.slice B G.length d) (.slice C 6 e) (.slice D 0 f)
  have rr := h3.setR (.slice A F.length c) (.slice B G.length d) (.slice C 6 e) (.slice D 0 f)
  obtain ⟨A', c', hA, eA, oA⟩ := h5 _ rfl
  obtain ⟨B', d', hB, eB, oB⟩ := h6 _ rfl
  obtain ⟨C', e', hC, eC, oC⟩ := h7 _ rfl
  injection eA with eA1 eA2 eA3
  injection eB with eB1 eB2 eB3
  injection eC with eC1 eC2 eC3
  subst eA1
  subst eB1
  subst eC1
  refine ⟨rr, ⟨(oA.keep kr (.inr (by omega))).iss, (oB.keep kr (.inr (by omega))).iss, (oC.keep kr (.inr (by omega))).al, .inl rfl⟩, below_keep h1 kr (by omega), h2.kept (kr.block _ (by omega) (by omega)), _, _, _, _, rr⟩
end
theorem mk6 (W : World) (base : Nat) (hb : base ≤ W.heap.size) : ∃ wm, (Instr.makeSlice 27 (.int .i64 6) (.int .i64 6)).run Try.prog W = .ok (.slice (some ⟨W.heap.size, 0, none⟩) 6 6) wm ∧ OAS wm base wm.heap.size (some ⟨W.heap.size, 0, none⟩) 6 (List.replicate 6 (0, 0, 0)) ∧ Below W.heap.size W wm := by
  obtain ⟨i0, hi0, hz0, hz1, hz2⟩ := info_parts acp_info
  obtain ⟨wm, hrun, r1, r2⟩ := run_make_full (P := Try.prog) W base 27 35 i0 (AVal 0 0 0) 3 Try.underlying27 hi0 hz0 hz1 .i64 .i64 6 (by rw [hz2]; decide) (by unfold maxLen; omega) hb
  have r3 : wm.ownsRow base 35 3 (.slice (some ⟨W.heap.size, 0, none⟩) (List.replicate 6 ((0, 0, 0) : Ac)).length 6) (List.replicate 6 ((0, 0, 0) : Ac)).length (acs (List.replicate 6 ((0, 0, 0) : Ac))) := by
    rw [show acs (List.replicate 6 ((0, 0, 0) : Ac)) = (madeCells (AVal 0 0 0).cells (6 * 3)).toList by kernel_rfl]
    exact r1
  exact ⟨wm, hrun, OAS.of_new r3, (Below.refl _ _).grown r2 (Nat.le_refl _) (by simp)⟩
theorem res_spec {W : World} {b : Nat} {p q x y : Value} {t : Bool} (tmps : Array Value) (h2 : tmps.getD 2 undef = .pointer (some ⟨b, 0, none⟩)) (h3 : tmps.getD 3 undef = .bool t) (h : RB W b p q x y) :
    (results Try.f16 tmps).run Try.prog W = .ok (.tuple #[.agg #[p, q, x, y], .bool t]) W := by
  have q0 := h.c0
  have q1 := h.c1
  have q2 := h.c2
  have q3 := h.c3
  rw [results_cell_tmp rfl, h2, h3]
  go_simp
theorem says_nil {w w1 : World} {b : Nat} (hb : w.heap.size ≤ b) (bw : Below w.heap.size w w1) {p q x y : Value} (k : RB w1 b p q x y) :
    RB (setR w1 b (.slice none 0 0) (.slice none 0 0) (.slice none 0 0) (.slice none 0 0)) b (.slice none 0 0) (.slice none 0 0) (.slice none 0 0) (.slice none 0 0) ∧
    Reads (setR w1 b (.slice none 0 0) (.slice none 0 0) (.slice none 0 0) (.slice none 0 0)) none none none none nilR ∧
    Below w.heap.size w (setR w1 b (.slice none 0 0) (.slice none 0 0) (.slice none 0 0) (.slice none 0 0)) :=
  ⟨k.setR _ _ _ _, ⟨.inl rfl, .inl rfl, .inl rfl, .inl rfl⟩, below_keep bw (setR_keep w1 b (.slice none 0 0) (.slice none 0 0) (.slice none 0 0) (.slice none 0 0)) hb⟩

set_option maxRecDepth 100000 in
set_option maxHeartbeats 12800000 in
theorem sRunNew_any (A B : Option Addr) (c d : Nat) (F G : List (List Int)) (w : World) (ha : ISS w A F) (hb : ISS w B G) (hF : F.length ≤ 1048576) (sF : Short F 1048576) (hG : G.length ≤ 1048576) (sG : Short G 1048576) :
    Calls Try.prog 16 #[.agg #[.slice A F.length c, .slice B G.length d]] w (SaysR w (runNew F G) (cmpOk F G)) := by
  have ba : Below w.heap.size w ((w.alloc (.cells #[.slice A F.length c, .slice B G.length d] 25)).alloc (.cells #[.slice none 0 0, .slice none 0 0, .slice none 0 0, .slice none 0 0] 30)) := ((Below.refl _ w).alloc (Nat.le_refl _) _).alloc (by simp) _
  have rb := RB.new (w.alloc (.cells #[.slice A F.length c, .slice B G.length d] 25)) (.slice none 0 0) (.slice none 0 0) (.slice none 0 0) (.slice none 0 0) 30
  have cb := (CB.new w (.slice A F.length c) (.slice B G.length d)).below ((Below.refl _ _).alloc (Nat.le_refl _) (.cells #[.slice none 0 0, .slice none 0 0, .slice none 0 0, .slice none 0 0] 30))
  rw [World.size_alloc] at rb
  have H := Lib.hid (And.intro ha (And.intro hb (And.intro hF (And.intro sF (And.intro hG sG)))))
  have iA := Lib.hid (fun W (hW : Below w.heap.size w W) => ha.below hW)
  have iB := Lib.hid (fun W (hW : Below w.heap.size w W) => hb.below hW)
  clear ha hb hF sF hG sG
  go_enter Try.func16, Try.ntmps16
  go_wp2_with fail
  refine (l13Valid_any _ _ _ _ _ _ _ (H.out.1.below ba) (H.out.2.1.below ba) H.out.2.2.1 H.out.2.2.2.1 H.out.2.2.2.2.1 H.out.2.2.2.2.2).mono ?_
  rintro e w1 ⟨rfl, b1⟩
  have B1 := below_step ba b1
  have r1 := rb.below b1
  have k1 := cb.below b1
  have z1 : w.heap.size + 2 ≤ w1.heap.size := by have := b1.size; simp at this; omega
  clear ba b1 rb cb
  cases hc : cmpOk F G
  · have p0 := r1.c0
    have p1 := r1.c1
    have p2 := r1.c2
    have p3 := r1.c3
    have y0 := r1.fz 0
    have y1 := r1.fz 1
    have y2 := r1.fz 2
    have y3 := r1.fz 3
    have M := Lib.hid (says_nil (by omega) B1 r1)
    have HC := Lib.hid hc
    clear hc B1 r1 k1
    go_wp2
    refine bodyPost_ret (res_spec _ rfl rfl M.out.1) rfl ?_
    rw [show runNew F G = nilR by simp [runNew, HC.out], HC.out]
    exact ⟨none, none, none, none, 0, 0, 0, 0, rfl, M.out.2.1, M.out.2.2⟩
  · have HC := Lib.hid (cmpOk_parts hc)
    have HQ := Lib.hid hc
    have HN := Lib.hid (show runNew F G = newR F G by simp [runNew, hc])
    have D := Lib.hid (show VN w F G (.slice A F.length c) (.slice B G.length d) none none none none w1 from ⟨B1, k1, r1, z1, fun v e => (by cases e), fun v e => (by cases e), fun v e => (by cases e), fun v e => (by cases e)⟩)
    clear hc r1 k1 B1 z1
    go_wp2_with fail
    have D := Lib.hid D.out.drew
    refine wp_region_noPanic ?_
    refine wp_region_held_drew (S := SN w (.slice A F.length c) (.slice B G.length d)) (by kernel_rfl) D.out.S (fun hH0 => ?_)
    generalize w1.drew = wd at D hH0 ⊢
    refine wpAnyH_take (i := 0) (v := ?_) rfl (by kernel_rfl) (by kernel_rfl) (by kernel_rfl) (fun _ _ _ h => h) (Or.inl ⟨by kernel_rfl, ?_⟩) (by assumption) ?_
    rotate_left
    · (intro W hSw; go_simp; try with_reducible rfl)
    try simp only [Act.put, List.getElem_toArray, List.getElem_cons_zero, List.setIfInBounds_toArray, List.set_cons_zero, List.set_cons_succ]
    refine wpAnyH_take (i := 1) (v := ?_) rfl (by kernel_rfl) (by kernel_rfl) (by kernel_rfl) (fun _ _ _ h => h) (Or.inl ⟨by kernel_rfl, ?_⟩) (by assumption) ?_
    rotate_left
    · (intro W hSw; have u0 := hSw.1.c0; go_simp; try with_reducible rfl)
    try simp only [Act.put, List.getElem_toArray, List.getElem_cons_succ, List.getElem_cons_zero, List.setIfInBounds_toArray, List.set_cons_zero, List.set_cons_succ]
    refine wpAnyH_take (i := 3) (v := ?_) rfl (by kernel_rfl) (by kernel_rfl) (by kernel_rfl) (fun _ _ _ h => h) (Or.inl ⟨by kernel_rfl, ?_⟩) (by assumption) ?_
    rotate_left
    · (intro W hSw; go_simp; try with_reducible rfl)
    try simp only [Act.put, List.getElem_toArray, List.getElem_cons_succ, List.getElem_cons_zero, List.setIfInBounds_toArray, List.set_cons_zero, List.set_cons_succ]
    refine wpAnyH_take (i := 4) (v := ?_) rfl (by kernel_rfl) (by kernel_rfl) (by kernel_rfl) (fun _ _ _ h => h) (Or.inl ⟨by kernel_rfl, ?_⟩) (by assumption) ?_
    rotate_left
    · (intro W hSw; have u0 := hSw.1.c1; go_simp; try with_reducible rfl)
    try simp only [Act.put, List.getElem_toArray, List.getElem_cons_succ, List.getElem_cons_zero, List.setIfInBounds_toArray, List.set_cons_zero, List.set_cons_succ]
    refine wpAnyH_ready (rs := [2, 7, 8]) (by kernel_rfl) (by simp) ?_
    refine AllReadyH.cons rfl (fun K hK => ?_) (AllReadyH.cons rfl (fun K hK => ?_) (AllReadyH.cons rfl (fun K hK => ?_) (AllReadyH.nil)))
    · go_simp
      refine (l13Copy_any A c F _ (iA.out _ D.out.1) HC.out.1 (by have := famOk_len HC.out.1; omega)).mono ?_
      rintro e wA ⟨AA, cA, rfl, oA, bA⟩
      have D := Lib.hid (D.out.copyA oA bA)
      clear oA bA
      refine hK.out _ _ ?_ (fun hH => ?_)
      · exact D.out.S
      clear hK K
      try simp only [Act.put, List.getElem_toArray, List.getElem_cons_succ, List.getElem_cons_zero, List.setIfInBounds_toArray, List.set_cons_zero, List.set_cons_succ]
      refine wpAnyH_ready (rs := [5, 7, 8]) (by kernel_rfl) (by simp) ?_
      refine AllReadyH.cons rfl (fun K hK => ?_) (AllReadyH.cons rfl (fun K hK => ?_) (AllReadyH.cons rfl (fun K hK => ?_) (AllReadyH.nil)))
      · go_simp
        refine (l13Copy_any B d G _ (iB.out _ D.out.1) HC.out.2.1 (by have := famOk_len HC.out.2.1; omega)).mono ?_
        rintro e wB ⟨AB, cB, rfl, oB, bB⟩
        have D := Lib.hid (D.out.copyB oB bB)
        clear oB bB
        refine hK.out _ _ ?_ (fun hH => ?_)
        · exact D.out.S
        clear hK K
        try simp only [Act.put, List.getElem_toArray, List.getElem_cons_succ, List.getElem_cons_zero, List.setIfInBounds_toArray, List.set_cons_zero, List.set_cons_succ]
        refine wpAnyH_take (i := 6) (v := ?_) rfl (by kernel_rfl) (by kernel_rfl) (by kernel_rfl) (fun _ _ _ h => h) (Or.inl ⟨by kernel_rfl, ?_⟩) (by assumption) ?_
        rotate_left
        · (intro W hSw; go_simp; try with_reducible rfl)
        try simp only [Act.put, List.getElem_toArray, List.getElem_cons_succ, List.getElem_cons_zero, List.setIfInBounds_toArray, List.set_cons_zero, List.set_cons_succ]
        refine wpAnyH_ready (rs := [7, 8]) (by kernel_rfl) (by simp) ?_
        refine AllReadyH.cons rfl (fun K hK => ?_) (AllReadyH.cons rfl (fun K hK => ?_) (AllReadyH.nil))
        · go_simp
          obtain ⟨wm, hrun, r1, r2⟩ := mk6 _ (w.heap.size + 2) D.out.2.2.2.1
          rw [hrun]
          have D := Lib.hid (D.out.made r1 r2)
          try simp only [World.size_alloc] at D
          clear hrun r1 r2
          simp only [Result.andThen, Oper.upon]
          refine hK.out _ _ ?_ (fun hH => ?_)
          · exact D.out.S
          clear hK K
          try simp only [Act.put, List.getElem_toArray, List.getElem_cons_succ, List.getElem_cons_zero, List.setIfInBounds_toArray, List.set_cons_zero, List.set_cons_succ]
          refine wpAnyH_ready (rs := [8]) (by kernel_rfl) (by simp) ?_
          refine AllReadyH.cons rfl (fun K hK => ?_) (AllReadyH.nil)
          · have D := Lib.hid (D.out.empty 49)
            try simp only [World.size_alloc] at D
            go_simp
            refine hK.out _ _ ?_ (fun hH => ?_)
            · exact D.out.S
            clear hK K
            try simp only [Act.put, List.getElem_toArray, List.getElem_cons_succ, List.getElem_cons_zero, List.setIfInBounds_toArray, List.set_cons_zero, List.set_cons_succ]
            refine wpAnyH_take (i := 9) (v := ?_) rfl (by kernel_rfl) (by kernel_rfl) (by kernel_rfl) (fun _ _ _ h => h) (Or.inl ⟨by kernel_rfl, ?_⟩) (by assumption) ?_
            rotate_left
            · (intro W hSw; go_simp; try with_reducible rfl)
            try simp only [Act.put, List.getElem_toArray, List.getElem_cons_succ, List.getElem_cons_zero, List.setIfInBounds_toArray, List.set_cons_zero, List.set_cons_succ]
            refine wpAnyH_ready (rs := [10]) (by kernel_rfl) (by simp) ?_
            refine AllReadyH.cons rfl (fun K hK => ?_) AllReadyH.nil
            have k0 := D.out.2.2.1.c0
            have k1 := D.out.2.2.1.c1
            have k2 := D.out.2.2.1.c2
            have k3 := D.out.2.2.1.c3
            have f0 := D.out.2.2.1.fz 0
            have f1 := D.out.2.2.1.fz 1
            have f2 := D.out.2.2.1.fz 2
            have f3 := D.out.2.2.1.fz 3
            go_simp
            refine hK.out _ _ ?_ (fun hH => ?_)
            · exact D.out.fin.2.2.2
            clear hK K k0 k1 k2 k3 f0 f1 f2 f3
            try simp only [Act.put, List.getElem_toArray, List.getElem_cons_succ, List.getElem_cons_zero, List.setIfInBounds_toArray, List.set_cons_zero, List.set_cons_succ]
            refine wpAnyH_take (i := 11) (v := ?_) rfl (by kernel_rfl) (by kernel_rfl) (by kernel_rfl) (fun _ _ _ h => h) (Or.inl ⟨by kernel_rfl, ?_⟩) (by assumption) ?_
            rotate_left
            · (intro W hSw; go_simp; try with_reducible rfl)
            try simp only [Act.put, List.getElem_toArray, List.getElem_cons_succ, List.getElem_cons_zero, List.setIfInBounds_toArray, List.set_cons_zero, List.set_cons_succ]
            refine wpAnyH_done (by kernel_rfl) ?_ _
            refine NoPanic.normal ?_
            go_wp2
            refine bodyPost_ret (res_spec _ rfl rfl D.out.fin.1) rfl ?_
            rw [HN.out, HQ.out]
            exact ⟨_, _, _, _, _, _, _, _, rfl, D.out.fin.2.1, D.out.fin.2.2.1⟩
        · have D := Lib.hid (D.out.empty 49)
          try simp only [World.size_alloc] at D
          go_simp
          refine hK.out _ _ ?_ (fun hH => ?_)
          · exact D.out.S
          clear hK K
          try simp only [Act.put, List.getElem_toArray, List.getElem_cons_succ, List.getElem_cons_zero, List.setIfInBounds_toArray, List.set_cons_zero, List.set_cons_succ]
          refine wpAnyH_ready (rs := [7]) (by kernel_rfl) (by simp) ?_
          refine AllReadyH.cons rfl (fun K hK => ?_) (AllReadyH.nil)
          · go_simp
            obtain ⟨wm, hrun, r1, r2⟩ := mk6 _ (w.heap.size + 2) D.out.2.2.2.1
            rw [hrun]
            have D := Lib.hid (D.out.made r1 r2)
            try simp only [World.size_alloc] at D
            clear hrun r1 r2
            simp only [Result.andThen, Oper.upon]
            refine hK.out _ _ ?_ (fun hH => ?_)
            · exact D.out.S
            clear hK K
            try simp only [Act.put, List.getElem_toArray, List.getElem_cons_succ, List.getElem_cons_zero, List.setIfInBounds_toArray, List.set_cons_zero, List.set_cons_succ]
            refine wpAnyH_take (i := 9) (v := ?_) rfl (by kernel_rfl) (by kernel_rfl) (by kernel_rfl) (fun _ _ _ h => h) (Or.inl ⟨by kernel_rfl, ?_⟩) (by assumption) ?_
            rotate_left
            · (intro W hSw; go_simp; try with_reducible rfl)
            try simp only [Act.put, List.getElem_toArray, List.getElem_cons_succ, List.getElem_cons_zero, List.setIfInBounds_toArray, List.set_cons_zero, List.set_cons_succ]
            refine wpAnyH_ready (rs := [10]) (by kernel_rfl) (by simp) ?_
            refine AllReadyH.cons rfl (fun K hK => ?_) AllReadyH.nil
            have k0 := D.out.2.2.1.c0
            have k1 := D.out.2.2.1.c1
            have k2 := D.out.2.2.1.c2
            have k3 := D.out.2.2.1.c3
            have f0 := D.out.2.2.1.fz 0
            have f1 := D.out.2.2.1.fz 1
            have f2 := D.out.2.2.1.fz 2
            have f3 := D.out.2.2.1.fz 3
            go_simp
            refine hK.out _ _ ?_ (fun hH => ?_)
            · exact D.out.fin.2.2.2
            clear hK K k0 k1 k2 k3 f0 f1 f2 f3
            try simp only [Act.put, List.getElem_toArray, List.getElem_cons_succ, List.getElem_cons_zero, List.setIfInBounds_toArray, List.set_cons_zero, List.set_cons_succ]
            refine wpAnyH_take (i := 11) (v := ?_) rfl (by kernel_rfl) (by kernel_rfl) (by kernel_rfl) (fun _ _ _ h => h) (Or.inl ⟨by kernel_rfl, ?_⟩) (by assumption) ?_
            rotate_left
            · (intro W hSw; go_simp; try with_reducible rfl)
            try simp only [Act.put, List.getElem_toArray, List.getElem_cons_succ, List.getElem_cons_zero, List.setIfInBounds_toArray, List.set_cons_zero, List.set_cons_succ]
            refine wpAnyH_done (by kernel_rfl) ?_ _
            refine NoPanic.normal ?_
            go_wp2
            refine bodyPost_ret (res_spec _ rfl rfl D.out.fin.1) rfl ?_
            rw [HN.out, HQ.out]
            exact ⟨_, _, _, _, _, _, _, _, rfl, D.out.fin.2.1, D.out.fin.2.2.1⟩
      · go_simp
        obtain ⟨wm, hrun, r1, r2⟩ := mk6 _ (w.heap.size + 2) D.out.2.2.2.1
        rw [hrun]
        have D := Lib.hid (D.out.made r1 r2)
        try simp only [World.size_alloc] at D
        clear hrun r1 r2
        simp only [Result.andThen, Oper.upon]
        refine hK.out _ _ ?_ (fun hH => ?_)
        · exact D.out.S
        clear hK K
        try simp only [Act.put, List.getElem_toArray, List.getElem_cons_succ, List.getElem_cons_zero, List.setIfInBounds_toArray, List.set_cons_zero, List.set_cons_succ]
        refine wpAnyH_ready (rs := [5, 8]) (by kernel_rfl) (by simp) ?_
        refine AllReadyH.cons rfl (fun K hK => ?_) (AllReadyH.cons rfl (fun K hK => ?_) (AllReadyH.nil))
        · go_simp
          refine (l13Copy_any B d G _ (iB.out _ D.out.1) HC.out.2.1 (by have := famOk_len HC.out.2.1; omega)).mono ?_
          rintro e wB ⟨AB, cB, rfl, oB, bB⟩
          have D := Lib.hid (D.out.copyB oB bB)
          clear oB bB
          refine hK.out _ _ ?_ (fun hH => ?_)
          · exact D.out.S
          clear hK K
          try simp only [Act.put, List.getElem_toArray, List.getElem_cons_succ, List.getElem_cons_zero, List.setIfInBounds_toArray, List.set_cons_zero, List.set_cons_succ]
          refine wpAnyH_take (i := 6) (v := ?_) rfl (by kernel_rfl) (by kernel_rfl) (by kernel_rfl) (fun _ _ _ h => h) (Or.inl ⟨by kernel_rfl, ?_⟩) (by assumption) ?_
          rotate_left
          · (intro W hSw; go_simp; try with_reducible rfl)
          try simp only [Act.put, List.getElem_toArray, List.getElem_cons_succ, List.getElem_cons_zero, List.setIfInBounds_toArray, List.set_cons_zero, List.set_cons_succ]
          refine wpAnyH_ready (rs := [8]) (by kernel_rfl) (by simp) ?_
          refine AllReadyH.cons rfl (fun K hK => ?_) (AllReadyH.nil)
          · have D := Lib.hid (D.out.empty 49)
            try simp only [World.size_alloc] at D
            go_simp
            refine hK.out _ _ ?_ (fun hH => ?_)
            · exact D.out.S
            clear hK K
            try simp only [Act.put, List.getElem_toArray, List.getElem_cons_succ, List.getElem_cons_zero, List.setIfInBounds_toArray, List.set_cons_zero, List.set_cons_succ]
            refine wpAnyH_take (i := 9) (v := ?_) rfl (by kernel_rfl) (by kernel_rfl) (by kernel_rfl) (fun _ _ _ h => h) (Or.inl ⟨by kernel_rfl, ?_⟩) (by assumption) ?_
            rotate_left
            · (intro W hSw; go_simp; try with_reducible rfl)
            try simp only [Act.put, List.getElem_toArray, List.getElem_cons_succ, List.getElem_cons_zero, List.setIfInBounds_toArray, List.set_cons_zero, List.set_cons_succ]
            refine wpAnyH_ready (rs := [10]) (by kernel_rfl) (by simp) ?_
            refine AllReadyH.cons rfl (fun K hK => ?_) AllReadyH.nil
            have k0 := D.out.2.2.1.c0
            have k1 := D.out.2.2.1.c1
            have k2 := D.out.2.2.1.c2
            have k3 := D.out.2.2.1.c3
            have f0 := D.out.2.2.1.fz 0
            have f1 := D.out.2.2.1.fz 1
            have f2 := D.out.2.2.1.fz 2
            have f3 := D.out.2.2.1.fz 3
            go_simp
            refine hK.out _ _ ?_ (fun hH => ?_)
            · exact D.out.fin.2.2.2
            clear hK K k0 k1 k2 k3 f0 f1 f2 f3
            try simp only [Act.put, List.getElem_toArray, List.getElem_cons_succ, List.getElem_cons_zero, List.setIfInBounds_toArray, List.set_cons_zero, List.set_cons_succ]
            refine wpAnyH_take (i := 11) (v := ?_) rfl (by kernel_rfl) (by kernel_rfl) (by kernel_rfl) (fun _ _ _ h => h) (Or.inl ⟨by kernel_rfl, ?_⟩) (by assumption) ?_
            rotate_left
            · (intro W hSw; go_simp; try with_reducible rfl)
            try simp only [Act.put, List.getElem_toArray, List.getElem_cons_succ, List.getElem_cons_zero, List.setIfInBounds_toArray, List.set_cons_zero, List.set_cons_succ]
            refine wpAnyH_done (by kernel_rfl) ?_ _
            refine NoPanic.normal ?_
            go_wp2
            refine bodyPost_ret (res_spec _ rfl rfl D.out.fin.1) rfl ?_
            rw [HN.out, HQ.out]
            exact ⟨_, _, _, _, _, _, _, _, rfl, D.out.fin.2.1, D.out.fin.2.2.1⟩
        · have D := Lib.hid (D.out.empty 49)
          try simp only [World.size_alloc] at D
          go_simp
          refine hK.out _ _ ?_ (fun hH => ?_)
          · exact D.out.S
          clear hK K
          try simp only [Act.put, List.getElem_toArray, List.getElem_cons_succ, List.getElem_cons_zero, List.setIfInBounds_toArray, List.set_cons_zero, List.set_cons_succ]
          refine wpAnyH_ready (rs := [5]) (by kernel_rfl) (by simp) ?_
          refine AllReadyH.cons rfl (fun K hK => ?_) (AllReadyH.nil)
          · go_simp
            refine (l13Copy_any B d G _ (iB.out _ D.out.1) HC.out.2.1 (by have := famOk_len HC.out.2.1; omega)).mono ?_
            rintro e wB ⟨AB, cB, rfl, oB, bB⟩
            have D := Lib.hid (D.out.copyB oB bB)
            clear oB bB
            refine hK.out _ _ ?_ (fun hH => ?_)
            · exact D.out.S
            clear hK K
            try simp only [Act.put, List.getElem_toArray, List.getElem_cons_succ, List.getElem_cons_zero, List.setIfInBounds_toArray, List.set_cons_zero, List.set_cons_succ]
            refine wpAnyH_take (i := 6) (v := ?_) rfl (by kernel_rfl) (by kernel_rfl) (by kernel_rfl) (fun _ _ _ h => h) (Or.inl ⟨by kernel_rfl, ?_⟩) (by assumption) ?_
            rotate_left
            · (intro W hSw; go_simp; try with_reducible rfl)
            try simp only [Act.put, List.getElem_toArray, List.getElem_cons_succ, List.getElem_cons_zero, List.setIfInBounds_toArray, List.set_cons_zero, List.set_cons_succ]
            refine wpAnyH_take (i := 9) (v := ?_) rfl (by kernel_rfl) (by kernel_rfl) (by kernel_rfl) (fun _ _ _ h => h) (Or.inl ⟨by kernel_rfl, ?_⟩) (by assumption) ?_
            rotate_left
            · (intro W hSw; go_simp; try with_reducible rfl)
            try simp only [Act.put, List.getElem_toArray, List.getElem_cons_succ, List.getElem_cons_zero, List.setIfInBounds_toArray, List.set_cons_zero, List.set_cons_succ]
            refine wpAnyH_ready (rs := [10]) (by kernel_rfl) (by simp) ?_
            refine AllReadyH.cons rfl (fun K hK => ?_) AllReadyH.nil
            have k0 := D.out.2.2.1.c0
            have k1 := D.out.2.2.1.c1
            have k2 := D.out.2.2.1.c2
            have k3 := D.out.2.2.1.c3
            have f0 := D.out.2.2.1.fz 0
            have f1 := D.out.2.2.1.fz 1
            have f2 := D.out.2.2.1.fz 2
            have f3 := D.out.2.2.1.fz 3
            go_simp
            refine hK.out _ _ ?_ (fun hH => ?_)
            · exact D.out.fin.2.2.2
            clear hK K k0 k1 k2 k3 f0 f1 f2 f3
            try simp only [Act.put, List.getElem_toArray, List.getElem_cons_succ, List.getElem_cons_zero, List.setIfInBounds_toArray, List.set_cons_zero, List.set_cons_succ]
            refine wpAnyH_take (i := 11) (v := ?_) rfl (by kernel_rfl) (by kernel_rfl) (by kernel_rfl) (fun _ _ _ h => h) (Or.inl ⟨by kernel_rfl, ?_⟩) (by assumption) ?_
            rotate_left
            · (intro W hSw; go_simp; try with_reducible rfl)
            try simp only [Act.put, List.getElem_toArray, List.getElem_cons_succ, List.getElem_cons_zero, List.setIfInBounds_toArray, List.set_cons_zero, List.set_cons_succ]
            refine wpAnyH_done (by kernel_rfl) ?_ _
            refine NoPanic.normal ?_
            go_wp2
            refine bodyPost_ret (res_spec _ rfl rfl D.out.fin.1) rfl ?_
            rw [HN.out, HQ.out]
            exact ⟨_, _, _, _, _, _, _, _, rfl, D.out.fin.2.1, D.out.fin.2.2.1⟩
      · have D := Lib.hid (D.out.empty 49)
        try simp only [World.size_alloc] at D
        go_simp
        refine hK.out _ _ ?_ (fun hH => ?_)
        · exact D.out.S
        clear hK K
        try simp only [Act.put, List.getElem_toArray, List.getElem_cons_succ, List.getElem_cons_zero, List.setIfInBounds_toArray, List.set_cons_zero, List.set_cons_succ]
        refine wpAnyH_ready (rs := [5, 7]) (by kernel_rfl) (by simp) ?_
        refine AllReadyH.cons rfl (fun K hK => ?_) (AllReadyH.cons rfl (fun K hK => ?_) (AllReadyH.nil))
        · go_simp
          refine (l13Copy_any B d G _ (iB.out _ D.out.1) HC.out.2.1 (by have := famOk_len HC.out.2.1; omega)).mono ?_
          rintro e wB ⟨AB, cB, rfl, oB, bB⟩
          have D := Lib.hid (D.out.copyB oB bB)
          clear oB bB
          refine hK.out _ _ ?_ (fun hH => ?_)
          · exact D.out.S
          clear hK K
          try simp only [Act.put, List.getElem_toArray, List.getElem_cons_succ, List.getElem_cons_zero, List.setIfInBounds_toArray, List.set_cons_zero, List.set_cons_succ]
          refine wpAnyH_take (i := 6) (v := ?_) rfl (by kernel_rfl) (by kernel_rfl) (by kernel_rfl) (fun _ _ _ h => h) (Or.inl ⟨by kernel_rfl, ?_⟩) (by assumption) ?_
          rotate_left
          · (intro W hSw; go_simp; try with_reducible rfl)
          try simp only [Act.put, List.getElem_toArray, List.getElem_cons_succ, List.getElem_cons_zero, List.setIfInBounds_toArray, List.set_cons_zero, List.set_cons_succ]
          refine wpAnyH_ready (rs := [7]) (by kernel_rfl) (by simp) ?_
          refine AllReadyH.cons rfl (fun K hK => ?_) (AllReadyH.nil)
          · go_simp
            obtain ⟨wm, hrun, r1, r2⟩ := mk6 _ (w.heap.size + 2) D.out.2.2.2.1
            rw [hrun]
            have D := Lib.hid (D.out.made r1 r2)
            try simp only [World.size_alloc] at D
            clear hrun r1 r2
            simp only [Result.andThen, Oper.upon]
            refine hK.out _ _ ?_ (fun hH => ?_)
            · exact D.out.S
            clear hK K
            try simp only [Act.put, List.getElem_toArray, List.getElem_cons_succ, List.getElem_cons_zero, List.setIfInBounds_toArray, List.set_cons_zero, List.set_cons_succ]
            refine wpAnyH_take (i := 9) (v := ?_) rfl (by kernel_rfl) (by kernel_rfl) (by kernel_rfl) (fun _ _ _ h => h) (Or.inl ⟨by kernel_rfl, ?_⟩) (by assumption) ?_
            rotate_left
            · (intro W hSw; go_simp; try with_reducible rfl)
            try simp only [Act.put, List.getElem_toArray, List.getElem_cons_succ, List.getElem_cons_zero, List.setIfInBounds_toArray, List.set_cons_zero, List.set_cons_succ]
            refine wpAnyH_ready (rs := [10]) (by kernel_rfl) (by simp) ?_
            refine AllReadyH.cons rfl (fun K hK => ?_) AllReadyH.nil
            have k0 := D.out.2.2.1.c0
            have k1 := D.out.2.2.1.c1
            have k2 := D.out.2.2.1.c2
            have k3 := D.out.2.2.1.c3
            have f0 := D.out.2.2.1.fz 0
            have f1 := D.out.2.2.1.fz 1
            have f2 := D.out.2.2.1.fz 2
            have f3 := D.out.2.2.1.fz 3
            go_simp
            refine hK.out _ _ ?_ (fun hH => ?_)
            · exact D.out.fin.2.2.2
            clear hK K k0 k1 k2 k3 f0 f1 f2 f3
            try simp only [Act.put, List.getElem_toArray, List.getElem_cons_succ, List.getElem_cons_zero, List.setIfInBounds_toArray, List.set_cons_zero, List.set_cons_succ]
            refine wpAnyH_take (i := 11) (v := ?_) rfl (by kernel_rfl) (by kernel_rfl) (by kernel_rfl) (fun _ _ _ h => h) (Or.inl ⟨by kernel_rfl, ?_⟩) (by assumption) ?_
            rotate_left
            · (intro W hSw; go_simp; try with_reducible rfl)
            try simp only [Act.put, List.getElem_toArray, List.getElem_cons_succ, List.getElem_cons_zero, List.setIfInBounds_toArray, List.set_cons_zero, List.set_cons_succ]
            refine wpAnyH_done (by kernel_rfl) ?_ _
            refine NoPanic.normal ?_
            go_wp2
            refine bodyPost_ret (res_spec _ rfl rfl D.out.fin.1) rfl ?_
            rw [HN.out, HQ.out]
            exact ⟨_, _, _, _, _, _, _, _, rfl, D.out.fin.2.1, D.out.fin.2.2.1⟩
        · go_simp
          obtain ⟨wm, hrun, r1, r2⟩ := mk6 _ (w.heap.size + 2) D.out.2.2.2.1
          rw [hrun]
          have D := Lib.hid (D.out.made r1 r2)
          try simp only [World.size_alloc] at D
          clear hrun r1 r2
          simp only [Result.andThen, Oper.upon]
          refine hK.out _ _ ?_ (fun hH => ?_)
          · exact D.out.S
          clear hK K
          try simp only [Act.put, List.getElem_toArray, List.getElem_cons_succ, List.getElem_cons_zero, List.setIfInBounds_toArray, List.set_cons_zero, List.set_cons_succ]
          refine wpAnyH_ready (rs := [5]) (by kernel_rfl) (by simp) ?_
          refine AllReadyH.cons rfl (fun K hK => ?_) (AllReadyH.nil)
          · go_simp
            refine (l13Copy_any B d G _ (iB.out _ D.out.1) HC.out.2.1 (by have := famOk_len HC.out.2.1; omega)).mono ?_
            rintro e wB ⟨AB, cB, rfl, oB, bB⟩
            have D := Lib.hid (D.out.copyB oB bB)
            clear oB bB
            refine hK.out _ _ ?_ (fun hH => ?_)
            · exact D.out.S
            clear hK K
            try simp only [Act.put, List.getElem_toArray, List.getElem_cons_succ, List.getElem_cons_zero, List.setIfInBounds_toArray, List.set_cons_zero, List.set_cons_succ]
            refine wpAnyH_take (i := 6) (v := ?_) rfl (by kernel_rfl) (by kernel_rfl) (by kernel_rfl) (fun _ _ _ h => h) (Or.inl ⟨by kernel_rfl, ?_⟩) (by assumption) ?_
            rotate_left
            · (intro W hSw; go_simp; try with_reducible rfl)
            try simp only [Act.put, List.getElem_toArray, List.getElem_cons_succ, List.getElem_cons_zero, List.setIfInBounds_toArray, List.set_cons_zero, List.set_cons_succ]
            refine wpAnyH_take (i := 9) (v := ?_) rfl (by kernel_rfl) (by kernel_rfl) (by kernel_rfl) (fun _ _ _ h => h) (Or.inl ⟨by kernel_rfl, ?_⟩) (by assumption) ?_
            rotate_left
            · (intro W hSw; go_simp; try with_reducible rfl)
            try simp only [Act.put, List.getElem_toArray, List.getElem_cons_succ, List.getElem_cons_zero, List.setIfInBounds_toArray, List.set_cons_zero, List.set_cons_succ]
            refine wpAnyH_ready (rs := [10]) (by kernel_rfl) (by simp) ?_
            refine AllReadyH.cons rfl (fun K hK => ?_) AllReadyH.nil
            have k0 := D.out.2.2.1.c0
            have k1 := D.out.2.2.1.c1
            have k2 := D.out.2.2.1.c2
            have k3 := D.out.2.2.1.c3
            have f0 := D.out.2.2.1.fz 0
            have f1 := D.out.2.2.1.fz 1
            have f2 := D.out.2.2.1.fz 2
            have f3 := D.out.2.2.1.fz 3
            go_simp
            refine hK.out _ _ ?_ (fun hH => ?_)
            · exact D.out.fin.2.2.2
            clear hK K k0 k1 k2 k3 f0 f1 f2 f3
            try simp only [Act.put, List.getElem_toArray, List.getElem_cons_succ, List.getElem_cons_zero, List.setIfInBounds_toArray, List.set_cons_zero, List.set_cons_succ]
            refine wpAnyH_take (i := 11) (v := ?_) rfl (by kernel_rfl) (by kernel_rfl) (by kernel_rfl) (fun _ _ _ h => h) (Or.inl ⟨by kernel_rfl, ?_⟩) (by assumption) ?_
            rotate_left
            · (intro W hSw; go_simp; try with_reducible rfl)
            try simp only [Act.put, List.getElem_toArray, List.getElem_cons_succ, List.getElem_cons_zero, List.setIfInBounds_toArray, List.set_cons_zero, List.set_cons_succ]
            refine wpAnyH_done (by kernel_rfl) ?_ _
            refine NoPanic.normal ?_
            go_wp2
            refine bodyPost_ret (res_spec _ rfl rfl D.out.fin.1) rfl ?_
            rw [HN.out, HQ.out]
            exact ⟨_, _, _, _, _, _, _, _, rfl, D.out.fin.2.1, D.out.fin.2.2.1⟩
    · go_simp
      obtain ⟨wm, hrun, r1, r2⟩ := mk6 _ (w.heap.size + 2) D.out.2.2.2.1
      rw [hrun]
      have D := Lib.hid (D.out.made r1 r2)
      try simp only [World.size_alloc] at D
      clear hrun r1 r2
      simp only [Result.andThen, Oper.upon]
      refine hK.out _ _ ?_ (fun hH => ?_)
      · exact D.out.S
      clear hK K
      try simp only [Act.put, List.getElem_toArray, List.getElem_cons_succ, List.getElem_cons_zero, List.setIfInBounds_toArray, List.set_cons_zero, List.set_cons_succ]
      refine wpAnyH_ready (rs := [2, 8]) (by kernel_rfl) (by simp) ?_
      refine AllReadyH.cons rfl (fun K hK => ?_) (AllReadyH.cons rfl (fun K hK => ?_) (AllReadyH.nil))
      · go_simp
        refine (l13Copy_any A c F _ (iA.out _ D.out.1) HC.out.1 (by have := famOk_len HC.out.1; omega)).mono ?_
        rintro e wA ⟨AA, cA, rfl, oA, bA⟩
        have D := Lib.hid (D.out.copyA oA bA)
        clear oA bA
        refine hK.out _ _ ?_ (fun hH => ?_)
        · exact D.out.S
        clear hK K
        try simp only [Act.put, List.getElem_toArray, List.getElem_cons_succ, List.getElem_cons_zero, List.setIfInBounds_toArray, List.set_cons_zero, List.set_cons_succ]
        refine wpAnyH_ready (rs := [5, 8]) (by kernel_rfl) (by simp) ?_
        refine AllReadyH.cons rfl (fun K hK => ?_) (AllReadyH.cons rfl (fun K hK => ?_) (AllReadyH.nil))
        · go_simp
          refine (l13Copy_any B d G _ (iB.out _ D.out.1) HC.out.2.1 (by have := famOk_len HC.out.2.1; omega)).mono ?_
          rintro e wB ⟨AB, cB, rfl, oB, bB⟩
          have D := Lib.hid (D.out.copyB oB bB)
          clear oB bB
          refine hK.out _ _ ?_ (fun hH => ?_)
          · exact D.out.S
          clear hK K
          try simp only [Act.put, List.getElem_toArray, List.getElem_cons_succ, List.getElem_cons_zero, List.setIfInBounds_toArray, List.set_cons_zero, List.set_cons_succ]
          refine wpAnyH_take (i := 6) (v := ?_) rfl (by kernel_rfl) (by kernel_rfl) (by kernel_rfl) (fun _ _ _ h => h) (Or.inl ⟨by kernel_rfl, ?_⟩) (by assumption) ?_
          rotate_left
          · (intro W hSw; go_simp; try with_reducible rfl)
          try simp only [Act.put, List.getElem_toArray, List.getElem_cons_succ, List.getElem_cons_zero, List.setIfInBounds_toArray, List.set_cons_zero, List.set_cons_succ]
          refine wpAnyH_ready (rs := [8]) (by kernel_rfl) (by simp) ?_
          refine AllReadyH.cons rfl (fun K hK => ?_) (AllReadyH.nil)
          · have D := Lib.hid (D.out.empty 49)
            try simp only [World.size_alloc] at D
            go_simp
            refine hK.out _ _ ?_ (fun hH => ?_)
            · exact D.out.S
            clear hK K
            try simp only [Act.put, List.getElem_toArray, List.getElem_cons_succ, List.getElem_cons_zero, List.setIfInBounds_toArray, List.set_cons_zero, List.set_cons_succ]
            refine wpAnyH_take (i := 9) (v := ?_) rfl (by kernel_rfl) (by kernel_rfl) (by kernel_rfl) (fun _ _ _ h => h) (Or.inl ⟨by kernel_rfl, ?_⟩) (by assumption) ?_
            rotate_left
            · (intro W hSw; go_simp; try with_reducible rfl)
            try simp only [Act.put, List.getElem_toArray, List.getElem_cons_succ, List.getElem_cons_zero, List.setIfInBounds_toArray, List.set_cons_zero, List.set_cons_succ]
            refine wpAnyH_ready (rs := [10]) (by kernel_rfl) (by simp) ?_
            refine AllReadyH.cons rfl (fun K hK => ?_) AllReadyH.nil
            have k0 := D.out.2.2.1.c0
            have k1 := D.out.2.2.1.c1
            have k2 := D.out.2.2.1.c2
            have k3 := D.out.2.2.1.c3
            have f0 := D.out.2.2.1.fz 0
            have f1 := D.out.2.2.1.fz 1
            have f2 := D.out.2.2.1.fz 2
            have f3 := D.out.2.2.1.fz 3
            go_simp
            refine hK.out _ _ ?_ (fun hH => ?_)
            · exact D.out.fin.2.2.2
            clear hK K k0 k1 k2 k3 f0 f1 f2 f3
            try simp only [Act.put, List.getElem_toArray, List.getElem_cons_succ, List.getElem_cons_zero, List.setIfInBounds_toArray, List.set_cons_zero, List.set_cons_succ]
            refine wpAnyH_take (i := 11) (v := ?_) rfl (by kernel_rfl) (by kernel_rfl) (by kernel_rfl) (fun _ _ _ h => h) (Or.inl ⟨by kernel_rfl, ?_⟩) (by assumption) ?_
            rotate_left
            · (intro W hSw; go_simp; try with_reducible rfl)
            try simp only [Act.put, List.getElem_toArray, List.getElem_cons_succ, List.getElem_cons_zero, List.setIfInBounds_toArray, List.set_cons_zero, List.set_cons_succ]
            refine wpAnyH_done (by kernel_rfl) ?_ _
            refine NoPanic.normal ?_
            go_wp2
            refine bodyPost_ret (res_spec _ rfl rfl D.out.fin.1) rfl ?_
            rw [HN.out, HQ.out]
            exact ⟨_, _, _, _, _, _, _, _, rfl, D.out.fin.2.1, D.out.fin.2.2.1⟩
        · have D := Lib.hid (D.out.empty 49)
          try simp only [World.size_alloc] at D
          go_simp
          refine hK.out _ _ ?_ (fun hH => ?_)
          · exact D.out.S
          clear hK K
          try simp only [Act.put, List.getElem_toArray, List.getElem_cons_succ, List.getElem_cons_zero, List.setIfInBounds_toArray, List.set_cons_zero, List.set_cons_succ]
          refine wpAnyH_ready (rs := [5]) (by kernel_rfl) (by simp) ?_
          refine AllReadyH.cons rfl (fun K hK => ?_) (AllReadyH.nil)
          · go_simp
            refine (l13Copy_any B d G _ (iB.out _ D.out.1) HC.out.2.1 (by have := famOk_len HC.out.2.1; omega)).mono ?_
            rintro e wB ⟨AB, cB, rfl, oB, bB⟩
            have D := Lib.hid (D.out.copyB oB bB)
            clear oB bB
            refine hK.out _ _ ?_ (fun hH => ?_)
            · exact D.out.S
            clear hK K
            try simp only [Act.put, List.getElem_toArray, List.getElem_cons_succ, List.getElem_cons_zero, List.setIfInBounds_toArray, List.set_cons_zero, List.set_cons_succ]
            refine wpAnyH_take (i := 6) (v := ?_) rfl (by kernel_rfl) (by kernel_rfl) (by kernel_rfl) (fun _ _ _ h => h) (Or.inl ⟨by kernel_rfl, ?_⟩) (by assumption) ?_
            rotate_left
            · (intro W hSw; go_simp; try with_reducible rfl)
            try simp only [Act.put, List.getElem_toArray, List.getElem_cons_succ, List.getElem_cons_zero, List.setIfInBounds_toArray, List.set_cons_zero, List.set_cons_succ]
            refine wpAnyH_take (i := 9) (v := ?_) rfl (by kernel_rfl) (by kernel_rfl) (by kernel_rfl) (fun _ _ _ h => h) (Or.inl ⟨by kernel_rfl, ?_⟩) (by assumption) ?_
            rotate_left
            · (intro W hSw; go_simp; try with_reducible rfl)
            try simp only [Act.put, List.getElem_toArray, List.getElem_cons_succ, List.getElem_cons_zero, List.setIfInBounds_toArray, List.set_cons_zero, List.set_cons_succ]
            refine wpAnyH_ready (rs := [10]) (by kernel_rfl) (by simp) ?_
            refine AllReadyH.cons rfl (fun K hK => ?_) AllReadyH.nil
            have k0 := D.out.2.2.1.c0
            have k1 := D.out.2.2.1.c1
            have k2 := D.out.2.2.1.c2
            have k3 := D.out.2.2.1.c3
            have f0 := D.out.2.2.1.fz 0
            have f1 := D.out.2.2.1.fz 1
            have f2 := D.out.2.2.1.fz 2
            have f3 := D.out.2.2.1.fz 3
            go_simp
            refine hK.out _ _ ?_ (fun hH => ?_)
            · exact D.out.fin.2.2.2
            clear hK K k0 k1 k2 k3 f0 f1 f2 f3
            try simp only [Act.put, List.getElem_toArray, List.getElem_cons_succ, List.getElem_cons_zero, List.setIfInBounds_toArray, List.set_cons_zero, List.set_cons_succ]
            refine wpAnyH_take (i := 11) (v := ?_) rfl (by kernel_rfl) (by kernel_rfl) (by kernel_rfl) (fun _ _ _ h => h) (Or.inl ⟨by kernel_rfl, ?_⟩) (by assumption) ?_
            rotate_left
            · (intro W hSw; go_simp; try with_reducible rfl)
            try simp only [Act.put, List.getElem_toArray, List.getElem_cons_succ, List.getElem_cons_zero, List.setIfInBounds_toArray, List.set_cons_zero, List.set_cons_succ]
            refine wpAnyH_done (by kernel_rfl) ?_ _
            refine NoPanic.normal ?_
            go_wp2
            refine bodyPost_ret (res_spec _ rfl rfl D.out.fin.1) rfl ?_
            rw [HN.out, HQ.out]
            exact ⟨_, _, _, _, _, _, _, _, rfl, D.out.fin.2.1, D.out.fin.2.2.1⟩
      · have D := Lib.hid (D.out.empty 49)
        try simp only [World.size_alloc] at D
        go_simp
        refine hK.out _ _ ?_ (fun hH => ?_)
        · exact D.out.S
        clear hK K
        try simp only [Act.put, List.getElem_toArray, List.getElem_cons_succ, List.getElem_cons_zero, List.setIfInBounds_toArray, List.set_cons_zero, List.set_cons_succ]
        refine wpAnyH_ready (rs := [2]) (by kernel_rfl) (by simp) ?_
        refine AllReadyH.cons rfl (fun K hK => ?_) (AllReadyH.nil)
        · go_simp
          refine (l13Copy_any A c F _ (iA.out _ D.out.1) HC.out.1 (by have := famOk_len HC.out.1; omega)).mono ?_
          rintro e wA ⟨AA, cA, rfl, oA, bA⟩
          have D := Lib.hid (D.out.copyA oA bA)
          clear oA bA
          refine hK.out _ _ ?_ (fun hH => ?_)
          · exact D.out.S
          clear hK K
          try simp only [Act.put, List.getElem_toArray, List.getElem_cons_succ, List.getElem_cons_zero, List.setIfInBounds_toArray, List.set_cons_zero, List.set_cons_succ]
          refine wpAnyH_ready (rs := [5]) (by kernel_rfl) (by simp) ?_
          refine AllReadyH.cons rfl (fun K hK => ?_) (AllReadyH.nil)
          · go_simp
            refine (l13Copy_any B d G _ (iB.out _ D.out.1) HC.out.2.1 (by have := famOk_len HC.out.2.1; omega)).mono ?_
            rintro e wB ⟨AB, cB, rfl, oB, bB⟩
            have D := Lib.hid (D.out.copyB oB bB)
            clear oB bB
            refine hK.out _ _ ?_ (fun hH => ?_)
            · exact D.out.S
            clear hK K
            try simp only [Act.put, List.getElem_toArray, List.getElem_cons_succ, List.getElem_cons_zero, List.setIfInBounds_toArray, List.set_cons_zero, List.set_cons_succ]
            refine wpAnyH_take (i := 6) (v := ?_) rfl (by kernel_rfl) (by kernel_rfl) (by kernel_rfl) (fun _ _ _ h => h) (Or.inl ⟨by kernel_rfl, ?_⟩) (by assumption) ?_
            rotate_left
            · (intro W hSw; go_simp; try with_reducible rfl)
            try simp only [Act.put, List.getElem_toArray, List.getElem_cons_succ, List.getElem_cons_zero, List.setIfInBounds_toArray, List.set_cons_zero, List.set_cons_succ]
            refine wpAnyH_take (i := 9) (v := ?_) rfl (by kernel_rfl) (by kernel_rfl) (by kernel_rfl) (fun _ _ _ h => h) (Or.inl ⟨by kernel_rfl, ?_⟩) (by assumption) ?_
            rotate_left
            · (intro W hSw; go_simp; try with_reducible rfl)
            try simp only [Act.put, List.getElem_toArray, List.getElem_cons_succ, List.getElem_cons_zero, List.setIfInBounds_toArray, List.set_cons_zero, List.set_cons_succ]
            refine wpAnyH_ready (rs := [10]) (by kernel_rfl) (by simp) ?_
            refine AllReadyH.cons rfl (fun K hK => ?_) AllReadyH.nil
            have k0 := D.out.2.2.1.c0
            have k1 := D.out.2.2.1.c1
            have k2 := D.out.2.2.1.c2
            have k3 := D.out.2.2.1.c3
            have f0 := D.out.2.2.1.fz 0
            have f1 := D.out.2.2.1.fz 1
            have f2 := D.out.2.2.1.fz 2
            have f3 := D.out.2.2.1.fz 3
            go_simp
            refine hK.out _ _ ?_ (fun hH => ?_)
            · exact D.out.fin.2.2.2
            clear hK K k0 k1 k2 k3 f0 f1 f2 f3
            try simp only [Act.put, List.getElem_toArray, List.getElem_cons_succ, List.getElem_cons_zero, List.setIfInBounds_toArray, List.set_cons_zero, List.set_cons_succ]
            refine wpAnyH_take (i := 11) (v := ?_) rfl (by kernel_rfl) (by kernel_rfl) (by kernel_rfl) (fun _ _ _ h => h) (Or.inl ⟨by kernel_rfl, ?_⟩) (by assumption) ?_
            rotate_left
            · (intro W hSw; go_simp; try with_reducible rfl)
            try simp only [Act.put, List.getElem_toArray, List.getElem_cons_succ, List.getElem_cons_zero, List.setIfInBounds_toArray, List.set_cons_zero, List.set_cons_succ]
            refine wpAnyH_done (by kernel_rfl) ?_ _
            refine NoPanic.normal ?_
            go_wp2
            refine bodyPost_ret (res_spec _ rfl rfl D.out.fin.1) rfl ?_
            rw [HN.out, HQ.out]
            exact ⟨_, _, _, _, _, _, _, _, rfl, D.out.fin.2.1, D.out.fin.2.2.1⟩
    · have D := Lib.hid (D.out.empty 49)
      try simp only [World.size_alloc] at D
      go_simp
      refine hK.out _ _ ?_ (fun hH => ?_)
      · exact D.out.S
      clear hK K
      try simp only [Act.put, List.getElem_toArray, List.getElem_cons_succ, List.getElem_cons_zero, List.setIfInBounds_toArray, List.set_cons_zero, List.set_cons_succ]
      refine wpAnyH_ready (rs := [2, 7]) (by kernel_rfl) (by simp) ?_
      refine AllReadyH.cons rfl (fun K hK => ?_) (AllReadyH.cons rfl (fun K hK => ?_) (AllReadyH.nil))
      · go_simp
        refine (l13Copy_any A c F _ (iA.out _ D.out.1) HC.out.1 (by have := famOk_len HC.out.1; omega)).mono ?_
        rintro e wA ⟨AA, cA, rfl, oA, bA⟩
        have D := Lib.hid (D.out.copyA oA bA)
        clear oA bA
        refine hK.out _ _ ?_ (fun hH => ?_)
        · exact D.out.S
        clear hK K
        try simp only [Act.put, List.getElem_toArray, List.getElem_cons_succ, List.getElem_cons_zero, List.setIfInBounds_toArray, List.set_cons_zero, List.set_cons_succ]
        refine wpAnyH_ready (rs := [5, 7]) (by kernel_rfl) (by simp) ?_
        refine AllReadyH.cons rfl (fun K hK => ?_) (AllReadyH.cons rfl (fun K hK => ?_) (AllReadyH.nil))
        · go_simp
          refine (l13Copy_any B d G _ (iB.out _ D.out.1) HC.out.2.1 (by have := famOk_len HC.out.2.1; omega)).mono ?_
          rintro e wB ⟨AB, cB, rfl, oB, bB⟩
          have D := Lib.hid (D.out.copyB oB bB)
          clear oB bB
          refine hK.out _ _ ?_ (fun hH => ?_)
          · exact D.out.S
          clear hK K
          try simp only [Act.put, List.getElem_toArray, List.getElem_cons_succ, List.getElem_cons_zero, List.setIfInBounds_toArray, List.set_cons_zero, List.set_cons_succ]
          refine wpAnyH_take (i := 6) (v := ?_) rfl (by kernel_rfl) (by kernel_rfl) (by kernel_rfl) (fun _ _ _ h => h) (Or.inl ⟨by kernel_rfl, ?_⟩) (by assumption) ?_
          rotate_left
          · (intro W hSw; go_simp; try with_reducible rfl)
          try simp only [Act.put, List.getElem_toArray, List.getElem_cons_succ, List.getElem_cons_zero, List.setIfInBounds_toArray, List.set_cons_zero, List.set_cons_succ]
          refine wpAnyH_ready (rs := [7]) (by kernel_rfl) (by simp) ?_
          refine AllReadyH.cons rfl (fun K hK => ?_) (AllReadyH.nil)
          · go_simp
            obtain ⟨wm, hrun, r1, r2⟩ := mk6 _ (w.heap.size + 2) D.out.2.2.2.1
            rw [hrun]
            have D := Lib.hid (D.out.made r1 r2)
            try simp only [World.size_alloc] at D
            clear hrun r1 r2
            simp only [Result.andThen, Oper.upon]
            refine hK.out _ _ ?_ (fun hH => ?_)
            · exact D.out.S
            clear hK K
            try simp only [Act.put, List.getElem_toArray, List.getElem_cons_succ, List.getElem_cons_zero, List.setIfInBounds_toArray, List.set_cons_zero, List.set_cons_succ]
            refine wpAnyH_take (i := 9) (v := ?_) rfl (by kernel_rfl) (by kernel_rfl) (by kernel_rfl) (fun _ _ _ h => h) (Or.inl ⟨by kernel_rfl, ?_⟩) (by assumption) ?_
            rotate_left
            · (intro W hSw; go_simp; try with_reducible rfl)
            try simp only [Act.put, List.getElem_toArray, List.getElem_cons_succ, List.getElem_cons_zero, List.setIfInBounds_toArray, List.set_cons_zero, List.set_cons_succ]
            refine wpAnyH_ready (rs := [10]) (by kernel_rfl) (by simp) ?_
            refine AllReadyH.cons rfl (fun K hK => ?_) AllReadyH.nil
            have k0 := D.out.2.2.1.c0
            have k1 := D.out.2.2.1.c1
            have k2 := D.out.2.2.1.c2
            have k3 := D.out.2.2.1.c3
            have f0 := D.out.2.2.1.fz 0
            have f1 := D.out.2.2.1.fz 1
            have f2 := D.out.2.2.1.fz 2
            have f3 := D.out.2.2.1.fz 3
            go_simp
            refine hK.out _ _ ?_ (fun hH => ?_)
            · exact D.out.fin.2.2.2
            clear hK K k0 k1 k2 k3 f0 f1 f2 f3
            try simp only [Act.put, List.getElem_toArray, List.getElem_cons_succ, List.getElem_cons_zero, List.setIfInBounds_toArray, List.set_cons_zero, List.set_cons_succ]
            refine wpAnyH_take (i := 11) (v := ?_) rfl (by kernel_rfl) (by kernel_rfl) (by kernel_rfl) (fun _ _ _ h => h) (Or.inl ⟨by kernel_rfl, ?_⟩) (by assumption) ?_
            rotate_left
            · (intro W hSw; go_simp; try with_reducible rfl)
            try simp only [Act.put, List.getElem_toArray, List.getElem_cons_succ, List.getElem_cons_zero, List.setIfInBounds_toArray, List.set_cons_zero, List.set_cons_succ]
            refine wpAnyH_done (by kernel_rfl) ?_ _
            refine NoPanic.normal ?_
            go_wp2
            refine bodyPost_ret (res_spec _ rfl rfl D.out.fin.1) rfl ?_
            rw [HN.out, HQ.out]
            exact ⟨_, _, _, _, _, _, _, _, rfl, D.out.fin.2.1, D.out.fin.2.2.1⟩
        · go_simp
          obtain ⟨wm, hrun, r1, r2⟩ := mk6 _ (w.heap.size + 2) D.out.2.2.2.1
          rw [hrun]
          have D := Lib.hid (D.out.made r1 r2)
          try simp only [World.size_alloc] at D
          clear hrun r1 r2
          simp only [Result.andThen, Oper.upon]
          refine hK.out _ _ ?_ (fun hH => ?_)
          · exact D.out.S
          clear hK K
          try simp only [Act.put, List.getElem_toArray, List.getElem_cons_succ, List.getElem_cons_zero, List.setIfInBounds_toArray, List.set_cons_zero, List.set_cons_succ]
          refine wpAnyH_ready (rs := [5]) (by kernel_rfl) (by simp) ?_
          refine AllReadyH.cons rfl (fun K hK => ?_) (AllReadyH.nil)
          · go_simp
            refine (l13Copy_any B d G _ (iB.out _ D.out.1) HC.out.2.1 (by have := famOk_len HC.out.2.1; omega)).mono ?_
            rintro e wB ⟨AB, cB, rfl, oB, bB⟩
            have D := Lib.hid (D.out.copyB oB bB)
            clear oB bB
            refine hK.out _ _ ?_ (fun hH => ?_)
            · exact D.out.S
            clear hK K
            try simp only [Act.put, List.getElem_toArray, List.getElem_cons_succ, List.getElem_cons_zero, List.setIfInBounds_toArray, List.set_cons_zero, List.set_cons_succ]
            refine wpAnyH_take (i := 6) (v := ?_) rfl (by kernel_rfl) (by kernel_rfl) (by kernel_rfl) (fun _ _ _ h => h) (Or.inl ⟨by kernel_rfl, ?_⟩) (by assumption) ?_
            rotate_left
            · (intro W hSw; go_simp; try with_reducible rfl)
            try simp only [Act.put, List.getElem_toArray, List.getElem_cons_succ, List.getElem_cons_zero, List.setIfInBounds_toArray, List.set_cons_zero, List.set_cons_succ]
            refine wpAnyH_take (i := 9) (v := ?_) rfl (by kernel_rfl) (by kernel_rfl) (by kernel_rfl) (fun _ _ _ h => h) (Or.inl ⟨by kernel_rfl, ?_⟩) (by assumption) ?_
            rotate_left
            · (intro W hSw; go_simp; try with_reducible rfl)
            try simp only [Act.put, List.getElem_toArray, List.getElem_cons_succ, List.getElem_cons_zero, List.setIfInBounds_toArray, List.set_cons_zero, List.set_cons_succ]
            refine wpAnyH_ready (rs := [10]) (by kernel_rfl) (by simp) ?_
            refine AllReadyH.cons rfl (fun K hK => ?_) AllReadyH.nil
            have k0 := D.out.2.2.1.c0
            have k1 := D.out.2.2.1.c1
            have k2 := D.out.2.2.1.c2
            have k3 := D.out.2.2.1.c3
            have f0 := D.out.2.2.1.fz 0
            have f1 := D.out.2.2.1.fz 1
            have f2 := D.out.2.2.1.fz 2
            have f3 := D.out.2.2.1.fz 3
            go_simp
            refine hK.out _ _ ?_ (fun hH => ?_)
            · exact D.out.fin.2.2.2
            clear hK K k0 k1 k2 k3 f0 f1 f2 f3
            try simp only [Act.put, List.getElem_toArray, List.getElem_cons_succ, List.getElem_cons_zero, List.setIfInBounds_toArray, List.set_cons_zero, List.set_cons_succ]
            refine wpAnyH_take (i := 11) (v := ?_) rfl (by kernel_rfl) (by kernel_rfl) (by kernel_rfl) (fun _ _ _ h => h) (Or.inl ⟨by kernel_rfl, ?_⟩) (by assumption) ?_
            rotate_left
            · (intro W hSw; go_simp; try with_reducible rfl)
            try simp only [Act.put, List.getElem_toArray, List.getElem_cons_succ, List.getElem_cons_zero, List.setIfInBounds_toArray, List.set_cons_zero, List.set_cons_succ]
            refine wpAnyH_done (by kernel_rfl) ?_ _
            refine NoPanic.normal ?_
            go_wp2
            refine bodyPost_ret (res_spec _ rfl rfl D.out.fin.1) rfl ?_
            rw [HN.out, HQ.out]
            exact ⟨_, _, _, _, _, _, _, _, rfl, D.out.fin.2.1, D.out.fin.2.2.1⟩
      · go_simp
        obtain ⟨wm, hrun, r1, r2⟩ := mk6 _ (w.heap.size + 2) D.out.2.2.2.1
        rw [hrun]
        have D := Lib.hid (D.out.made r1 r2)
        try simp only [World.size_alloc] at D
        clear hrun r1 r2
        simp only [Result.andThen, Oper.upon]
        refine hK.out _ _ ?_ (fun hH => ?_)
        · exact D.out.S
        clear hK K
        try simp only [Act.put, List.getElem_toArray, List.getElem_cons_succ, List.getElem_cons_zero, List.setIfInBounds_toArray, List.set_cons_zero, List.set_cons_succ]
        refine wpAnyH_ready (rs := [2]) (by kernel_rfl) (by simp) ?_
        refine AllReadyH.cons rfl (fun K hK => ?_) (AllReadyH.nil)
        · go_simp
          refine (l13Copy_any A c F _ (iA.out _ D.out.1) HC.out.1 (by have := famOk_len HC.out.1; omega)).mono ?_
          rintro e wA ⟨AA, cA, rfl, oA, bA⟩
          have D := Lib.hid (D.out.copyA oA bA)
          clear oA bA
          refine hK.out _ _ ?_ (fun hH => ?_)
          · exact D.out.S
          clear hK K
          try simp only [Act.put, List.getElem_toArray, List.getElem_cons_succ, List.getElem_cons_zero, List.setIfInBounds_toArray, List.set_cons_zero, List.set_cons_succ]
          refine wpAnyH_ready (rs := [5]) (by kernel_rfl) (by simp) ?_
          refine AllReadyH.cons rfl (fun K hK => ?_) (AllReadyH.nil)
          · go_simp
            refine (l13Copy_any B d G _ (iB.out _ D.out.1) HC.out.2.1 (by have := famOk_len HC.out.2.1; omega)).mono ?_
            rintro e wB ⟨AB, cB, rfl, oB, bB⟩
            have D := Lib.hid (D.out.copyB oB bB)
            clear oB bB
            refine hK.out _ _ ?_ (fun hH => ?_)
            · exact D.out.S
            clear hK K
            try simp only [Act.put, List.getElem_toArray, List.getElem_cons_succ, List.getElem_cons_zero, List.setIfInBounds_toArray, List.set_cons_zero, List.set_cons_succ]
            refine wpAnyH_take (i := 6) (v := ?_) rfl (by kernel_rfl) (by kernel_rfl) (by kernel_rfl) (fun _ _ _ h => h) (Or.inl ⟨by kernel_rfl, ?_⟩) (by assumption) ?_
            rotate_left
            · (intro W hSw; go_simp; try with_reducible rfl)
            try simp only [Act.put, List.getElem_toArray, List.getElem_cons_succ, List.getElem_cons_zero, List.setIfInBounds_toArray, List.set_cons_zero, List.set_cons_succ]
            refine wpAnyH_take (i := 9) (v := ?_) rfl (by kernel_rfl) (by kernel_rfl) (by kernel_rfl) (fun _ _ _ h => h) (Or.inl ⟨by kernel_rfl, ?_⟩) (by assumption) ?_
            rotate_left
            · (intro W hSw; go_simp; try with_reducible rfl)
            try simp only [Act.put, List.getElem_toArray, List.getElem_cons_succ, List.getElem_cons_zero, List.setIfInBounds_toArray, List.set_cons_zero, List.set_cons_succ]
            refine wpAnyH_ready (rs := [10]) (by kernel_rfl) (by simp) ?_
            refine AllReadyH.cons rfl (fun K hK => ?_) AllReadyH.nil
            have k0 := D.out.2.2.1.c0
            have k1 := D.out.2.2.1.c1
            have k2 := D.out.2.2.1.c2
            have k3 := D.out.2.2.1.c3
            have f0 := D.out.2.2.1.fz 0
            have f1 := D.out.2.2.1.fz 1
            have f2 := D.out.2.2.1.fz 2
            have f3 := D.out.2.2.1.fz 3
            go_simp
            refine hK.out _ _ ?_ (fun hH => ?_)
            · exact D.out.fin.2.2.2
            clear hK K k0 k1 k2 k3 f0 f1 f2 f3
            try simp only [Act.put, List.getElem_toArray, List.getElem_cons_succ, List.getElem_cons_zero, List.setIfInBounds_toArray, List.set_cons_zero, List.set_cons_succ]
            refine wpAnyH_take (i := 11) (v := ?_) rfl (by kernel_rfl) (by kernel_rfl) (by kernel_rfl) (fun _ _ _ h => h) (Or.inl ⟨by kernel_rfl, ?_⟩) (by assumption) ?_
            rotate_left
            · (intro W hSw; go_simp; try with_reducible rfl)
            try simp only [Act.put, List.getElem_toArray, List.getElem_cons_succ, List.getElem_cons_zero, List.setIfInBounds_toArray, List.set_cons_zero, List.set_cons_succ]
            refine wpAnyH_done (by kernel_rfl) ?_ _
            refine NoPanic.normal ?_
            go_wp2
            refine bodyPost_ret (res_spec _ rfl rfl D.out.fin.1) rfl ?_
            rw [HN.out, HQ.out]
            exact ⟨_, _, _, _, _, _, _, _, rfl, D.out.fin.2.1, D.out.fin.2.2.1⟩
end Go.Proofs.Ytbkdhjmfphhhoaa
