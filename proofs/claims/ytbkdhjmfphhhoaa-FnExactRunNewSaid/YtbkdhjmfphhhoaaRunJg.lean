/- A run read out of an instance. -/
import Derived.Test.YtbkdhjmfphhhoaaRunIg
import Derived.Test.YtbkdhjmfphhhoaaGd
import Derived.Deep.RegionLaw
import Derived.Deep.AppendLies
import Derived.Deep.RegionHeld3
namespace Go.Proofs.Ytbkdhjmfphhhoaa
open Go.RowKit

theorem pr_one (x y : Int) (A : Option Addr) (n c : Nat) : ∀ u ∈ [Value.int .i64 x, Value.int .i64 y, Value.slice A n c], u.oneCell' = true := by
  intro u hu
  simp at hu
  rcases hu with rfl | rfl | rfl <;> rfl
/-- The row of proposals so far. -/
def PrR (w wr : World) (lo : Nat) (l : List Pr) (A : Option Addr) (c : Nat) (vs : List Value) : Prop :=
  wr.ownsRow lo 49 3 (.slice A l.length c) l.length (pcs l vs) ∧ Rws wr lo wr.heap.size (pvs l) vs ∧ Below w.heap.size w wr
theorem prR_app {w wa w2 w3 : World} {lo : Nat} {l : List Pr} {A : Option Addr} {c : Nat} {vs : List Value} {o : Obj} {x y : Int} {s : List Int} {A2 : Option Addr} {c2 : Nat} {v3 : Value}
    (h : PrR w wa lo l A c vs) (hlo : w.heap.size ≤ lo) (hla : lo ≤ wa.heap.size) (b2 : Below wa.heap.size wa w2) (o2 : w2.ownsRow wa.heap.size 3 1 (.slice A2 s.length c2) s.length (s.map (Value.int .i64)))
    (h3 : w3.ownsRow lo 49 3 v3 (l.length + 1) (pcs l vs ++ [.int .i64 x, .int .i64 y, .slice A2 s.length c2])) (hg : (w2.alloc o).grownBy w3 (Value.slice A l.length c).ownBlock) :
    ∃ A6 c6, v3 = .slice A6 (l ++ [(x, y, s)]).length c6 ∧ PrR w w3 lo (l ++ [(x, y, s)]) A6 c6 (vs ++ [.slice A2 s.length c2]) := by
  obtain ⟨r1, r2, r3⟩ := h
  have hvl : vs.length = l.length := by rw [r2.1, pvs_len]
  have hl1 : (l ++ [(x, y, s)]).length = l.length + 1 := by simp
  have own2 := own_at r1 (w' := w2) fun g hg' => b2.block g (r1.lt g hg').2
  have h4 : w3.ownsRow lo 49 3 v3 (l ++ [(x, y, s)]).length (pcs (l ++ [(x, y, s)]) (vs ++ [.slice A2 s.length c2])) := by
    rw [hl1, pcs_snoc _ _ hvl]
    exact h3
  obtain ⟨A6, c6, rfl⟩ := own_slice_any h4
  have hsz := hg.size
  have hsz2 := b2.size
  simp only [World.size_alloc] at hsz
  refine ⟨A6, c6, rfl, h4, ?_, app_gen3 own2 hlo (below_step r3 b2) hg⟩
  rw [pvs_app]
  exact rows_app3 (r2.below (Nat.le_refl _) b2) (show RowAt w2 wa.heap.size w2.heap.size s (.slice A2 s.length c2) from ⟨_, _, rfl, Own.of_new o2⟩) (Nat.le_refl _) hla hsz2 own2 ty_ne hg
theorem PrR.alloc {w wr : World} {lo : Nat} {l : List Pr} {A : Option Addr} {c : Nat} {vs : List Value} (h : PrR w wr lo l A c vs) (o : Obj) : PrR w (wr.alloc o) lo l A c vs := by
  obtain ⟨r1, r2, r3⟩ := h
  refine ⟨r1.alloc o, r2.below ?_ ((Below.refl _ wr).alloc (Nat.le_refl _) o) |>.hi_le ?_ (Nat.le_refl _), r3.alloc r3.size o⟩
  · exact Nat.le_refl _
  · simp

theorem prR_next (tl : List Tl) {k : Nat} {t1 : Int} {t2 : Nat} (h : tl[k]? = some (t1, t2)) : prsTo tl (k + 1) = if t1 = 0 then prsTo tl k else prsTo tl k ++ [((k : Int), t1, mem t2)] := by
  rw [prsTo_succ, prB]
  simp only [List.getD, h, Option.getD_some, beq_iff_eq]
  split <;> simp

/-- Behind the last store. -/
theorem run_end {w wz wr wA wB wC : World} {r : Rn} {A5 AA AB AC : Option Addr} {c5 cA cB cC n : Nat} {vs : List Value} (h : PrR wz wr (w.heap.size + 1) r.pr A5 c5 vs) (hbw : Below w.heap.size w wr) (hsw : w.heap.size + 1 ≤ wr.heap.size)
    (oA : OSS wA wr.heap.size wA.heap.size AA cA r.P) (bA : Below wr.heap.size wr wA) (oB : OSS wB wA.heap.size wB.heap.size AB cB r.Q) (bB : Below wA.heap.size wA wB)
    (hn : r.ac.length = n) (oC : wC.ownsRow wB.heap.size 35 3 (.slice AC r.ac.length cC) r.ac.length (acs r.ac)) (bC : Below wB.heap.size wB wC) {p q x y : Value} (rC : RB wC w.heap.size p q x y) :
    RB (setR wC w.heap.size (.slice AA r.P.length cA) (.slice AB r.Q.length cB) (.slice AC n cC) (.slice A5 r.pr.length c5)) w.heap.size (.slice AA r.P.length cA) (.slice AB r.Q.length cB) (.slice AC n cC) (.slice A5 r.pr.length c5) ∧
    ORun (setR wC w.heap.size (.slice AA r.P.length cA) (.slice AB r.Q.length cB) (.slice AC n cC) (.slice A5 r.pr.length c5)) w.heap.size (setR wC w.heap.size (.slice AA r.P.length cA) (.slice AB r.Q.length cB) (.slice AC n cC) (.slice A5 r.pr.length c5)).heap.size AA AB AC A5 cA cB cC c5 r ∧
    Below w.heap.size w (setR wC w.heap.size (.slice AA r.P.length cA) (.slice AB r.Q.length cB) (.slice AC n cC) (.slice A5 r.pr.length c5)) := by
  have kr := setR_keep wC w.heap.size (.slice AA r.P.length cA) (.slice AB r.Q.length cB) (.slice AC n cC) (.slice A5 r.pr.length c5)
  have hsz := setR_size wC w.heap.size (.slice AA r.P.length cA) (.slice AB r.Q.length cB) (.slice AC n cC) (.slice A5 r.pr.length c5)
  have rr := rC.setR (.slice AA r.P.length cA) (.slice AB r.Q.length cB) (.slice AC n cC) (.slice A5 r.pr.length c5)
  have oD := OPS.of_rows h.1 h.2.1
  have z1 := bA.size
  have z2 := bB.size
  have z3 := bC.size
  refine ⟨rr, ⟨wr.heap.size, wA.heap.size, wB.heap.size, wC.heap.size, w.heap.size + 1, wr.heap.size, by omega, z1, z2, z3, by omega, by omega, hsw, by omega, Nat.le_refl _, .inl (Nat.le_refl _), ((oA.below bB).below bC).keep kr (.inr hsw), (oB.below bC).keep kr (.inr (by omega)), (OAS.of_new oC).keep kr (.inr (by omega)), (((oD.below bA).below bB).below bC).keep kr (.inr (Nat.le_refl _))⟩, ?_⟩
  exact below_keep (below_step (below_step (below_step hbw bA) bB) bC) kr (Nat.le_refl _)

set_option maxRecDepth 100000 in
set_option maxHeartbeats 3200000 in
theorem runI_any (g : Nat) (r : Rn) (w : World) (h : Inst w g r) (ho : runOk r = true) :
    Calls Try.prog 58 #[.pointer (some ⟨g, 0, none⟩)] w (CopyR w r) := by
  obtain ⟨i0, hi0, hz0, hz1, hz2⟩ := info_parts pr_info
  obtain ⟨w1, A, B, c, d, hin0, iA0, iB0, hb1, hg1⟩ := h
  obtain ⟨hcm, h6, hpr, _⟩ := runOk_parts ho
  obtain ⟨hKA, hKAl⟩ := fam_bits (cmpOk_parts hcm).1
  obtain ⟨hKB, hKBl⟩ := fam_bits (cmpOk_parts hcm).2.1
  have ba : Below w.heap.size w (w.alloc (.cells #[.slice none 0 0, .slice none 0 0, .slice none 0 0, .slice none 0 0] 30)) := (Below.refl _ w).alloc (Nat.le_refl _) _
  have rb := RB.new w (.slice none 0 0) (.slice none 0 0) (.slice none 0 0) (.slice none 0 0) 30
  have hsa : w.heap.size + 1 ≤ (w.alloc (.cells #[.slice none 0 0, .slice none 0 0, .slice none 0 0, .slice none 0 0] 30)).heap.size := by simp
  have hin := hin0.below ba
  have iA := (iA0.below hb1).below ba
  have iB := (iB0.below hb1).below ba
  have hlt := hin0.lt
  have HF := Lib.hid (show mems (msks r.P) = r.P ∧ mems (msks r.Q) = r.Q ∧ prsTo (tlOf r.pr) 21 = r.pr from ⟨mems_msks (famOk_allV (cmpOk_parts hcm).1), mems_msks (famOk_allV (cmpOk_parts hcm).2.1), prsTo_of hpr⟩)
  obtain ⟨K1, hK1⟩ : ∃ K, K = msks r.P := ⟨_, rfl⟩
  obtain ⟨K2, hK2⟩ : ∃ K, K = msks r.Q := ⟨_, rfl⟩
  obtain ⟨tl, htl⟩ : ∃ tl, tl = tlOf r.pr := ⟨_, rfl⟩
  rw [← hK1, ← hK2, ← htl] at HF
  rw [← hK1, ← hK2, ← htl] at hin
  rw [← hK1] at hKA hKAl iA
  rw [← hK2] at hKB hKBl iB
  have HT := Lib.hid (show ∀ k : Nat, k < 21 → tl[k]? = some (tlB r.pr (k : Int)) from fun k hk => by rw [htl]; exact tlOf_at _ hk)
  have HL := Lib.hid (show ∀ k : Nat, (tlB r.pr (k : Int)).2 < 64 from fun k => tlB_lt hpr _)
  have hrg : World.rangeAt (w.alloc (.cells #[.slice none 0 0, .slice none 0 0, .slice none 0 0, .slice none 0 0] 30)) g 20 (tls tl) := fun j v hv => by rw [hin.cell, ins_tl hin.2.1]; exact hv
  have hts : (tls tl).length = 42 := by rw [tls_len, hin.2.2]
  have hu : Try.prog.underlying 143 = some (.array 21 142) := by kernel_rfl
  have hi : (Try.prog.info? 143).map (·.size) = some (tls tl).length := by rw [hts]; kernel_rfl
  have hld : ∀ (ops : Array Oper) (rest : List Oper) (op : Oper) (a : Act) (Q : Exit → Act → World → Prop), op.guard = none → op.op = .load 143 (.tmp 8) → a.eval (.tmp 8) = .pointer (some ⟨g, 20, none⟩) → wpList Try.prog ops Q rest (a.put op.dst (.agg (tls tl).toArray)) (w.alloc (.cells #[.slice none 0 0, .slice none 0 0, .slice none 0 0, .slice none 0 0] 30)) → wpList Try.prog ops Q (op :: rest) a (w.alloc (.cells #[.slice none 0 0, .slice none 0 0, .slice none 0 0, .slice none 0 0] 30)) :=
    fun _ _ _ _ _ h1 h2 h3 h4 => wpList_load_mid h1 143 (.tmp 8) h2 g 20 h3 (tls tl) _ hrg hu rfl hi h4
  have hix := tal_index tl
  obtain ⟨V, hV⟩ : ∃ V, V = (tls tl).toArray := ⟨_, rfl⟩
  have HLD := Lib.hid hld
  rw [← hV] at hix HLD
  have HIX := Lib.hid hix
  have HIN := Lib.hid (And.intro hin (And.intro iA (And.intro iB (And.intro rb (And.intro ba hsa)))))
  clear hix hu hi hrg hts hin iA iB hb1 hg1 hV hcm hpr hK1 hK2 htl ho hin0 iA0 iB0 rb ba hsa hld
  go_enter Try.func58, Try.ntmps58
  go_wp2_with (refine HLD.out _ _ _ _ _ rfl rfl rfl ?_)
  go_loopw [3, 10] (fun v i wr => ∃ (k : Nat) (vs : List Value) (A5 : Option Addr) (c5 : Nat), k ≤ 21 ∧ i = .int .i64 k ∧ v = .slice A5 (prsTo tl k).length c5 ∧ PrR (w.alloc (.cells #[.slice none 0 0, .slice none 0 0, .slice none 0 0, .slice none 0 0] 30)) wr (w.heap.size + 1) (prsTo tl k) A5 c5 vs) (fun _ i _ => 21 - (intOf i).toNat)
  case atStart => exact ⟨0, [], none, 0, by omega, rfl, rfl, World.ownsRow_nil _ _ _ _, Rws.nil _ _ _, Below.refl _ _⟩
  case round =>
    obtain ⟨k, vs, A5, c5, hk, rfl, rfl, hpr⟩ := hrel
    by_cases hlt21 : k < 21
    · have hkk : (k : Int) < 21 := by omega
      have hix := HIX.out k _ hlt21 (HT.out k hlt21)
      have hs64 := HL.out k
      have hv := HT.out k hlt21
      have hpl := prsTo_len tl k
      obtain ⟨t, ht⟩ : ∃ t, t = tlB r.pr (k : Int) := ⟨_, rfl⟩
      rw [← ht] at hix hs64 hv
      clear ht
      obtain ⟨t1, t2⟩ := t
      simp only at hix hs64 hv
      have hnx := prR_next tl hv
      have hpa := hpr.alloc (.cells #[.int .i64 t1, .int .u8 t2] 142)
      have c0 : (wr.alloc (.cells #[.int .i64 t1, .int .u8 t2] 142)).cell? ⟨wr.heap.size, 0, none⟩ = some (.int .i64 t1) := by rw [cell_of_row _ _ _ _ _ (0, 0) (heap_alloc_new wr _)]; rfl
      have c1 : (wr.alloc (.cells #[.int .i64 t1, .int .u8 t2] 142)).cell? ⟨wr.heap.size, 1, none⟩ = some (.int .u8 t2) := by rw [cell_of_row _ _ _ _ _ (0, 0) (heap_alloc_new wr _)]; rfl
      have HP := Lib.hid (And.intro hpa (And.intro hnx (show w.heap.size + 1 ≤ (wr.alloc (.cells #[.int .i64 t1, .int .u8 t2] 142)).heap.size by have := hpr.2.2.size; simp at this ⊢; omega)))
      clear hpa hpr hv hnx
      by_cases ht0 : t1 = 0
      · subst ht0
        have HE := Lib.hid (HP.out.2.1.trans (if_pos rfl))
        clear hs64
        go_wp2
        go_roundw
        case rel => exact ⟨k + 1, vs, A5, c5, by omega, by go_num, by rw [HE.out], by rw [HE.out]; exact HP.out.1⟩
        case measure => simp [intOf]; omega
      · have HE := Lib.hid (HP.out.2.1.trans (if_neg ht0))
        go_wp2
        generalize wr.alloc (.cells #[.int .i64 t1, .int .u8 t2] 142) = wa at *
        have hdw : Below wa.heap.size wa wa.drew := (Below.refl _ _).drew
        have HI := Lib.hid (fun W : World => members_any t2 W hs64)
        have h63 : (prsTo tl k).length + 1 ≤ maxLen := by unfold maxLen; omega
        have hby : ((prsTo tl k).length + 1) * 40 ≤ 140737488355328 := by omega
        have hown := HP.out.1.1
        have hsz0 := HP.out.2.2
        clear hix
        go_region_law (first
          | (refine step_append_own _ (by rfl) (.tmp 17) (.tmp 25) 28 (by rfl) (w.heap.size + 1) 49 i0 (.agg #[.int .i64 0, .int .i64 0, .slice none 0 0]) 3 40 Try.underlying28 hi0 hz0 hz1 hz2 rfl (by decide) (.slice A5 (prsTo tl k).length c5) (prsTo tl k).length (pcs (prsTo tl k) vs) (by rfl) (own2.alloc _) ⟨w2.heap.size, 0, none⟩ 1 1 [.int .i64 (k : Int), .int .i64 t1, .slice A2 (mem t2).length c2] (by rfl) (by rfl) (World.news_of_block (cs := #[.int .i64 (k : Int), .int .i64 t1, .slice A2 (mem t2).length c2]) (t := 49) (fr := (0, 0)) (heap_alloc_new w2 _)) (pr_one _ _ _ _ _) h63 hby hsz2 ?_; intro v3 w3 hown3 hgrow3)
          | (go_simp; go_at_call 108; refine (HI.out _).mono ?_; rintro e w2 ⟨A2, c2, rfl, o2, bb2⟩; have b2w := below_step hdw bb2; have own2 := own_at hown (w' := w2) fun g hg => b2w.block g (hown.lt g hg).2; have hs2 := b2w.size; have u0 := (b2w.cell (p := ⟨wr.heap.size, 0, none⟩) (World.block_lt_of_cell? wa _ c0)).trans c0; have hsz2 : w.heap.size + 1 ≤ (w2.alloc (.cells #[.int .i64 (k : Int), .int .i64 t1, .slice A2 (mem t2).length c2] 49)).heap.size := (by simp; omega))
          | fail)
        all_goals (
          obtain ⟨A6, c6, rfl, hR⟩ := prR_app HP.out.1 (by simp) HP.out.2.2 b2w o2 hown3 hgrow3
          have HR := Lib.hid hR
          clear hR o2 bb2 b2w own2 hown3 hgrow3 hown hs2 u0 hsz2 hdw HI c0 c1
          go_wp2
          go_roundw
          case rel => exact ⟨k + 1, _, A6, c6, by omega, by go_num, by rw [HE.out]; simp, by rw [HE.out]; exact HR.out⟩
          case measure => simp [intOf]; omega)
    · have hk9 : k = 21 := by omega
      have hdd : ¬ (k : Int) < 21 := by omega
      have hprs : prsTo tl k = r.pr := by rw [hk9]; exact HF.out.2.2
      rw [hprs] at hpr ⊢
      have hbel := hpr.2.2
      have hinr := HIN.out.1.below hbel
      have iAr := HIN.out.2.1.below hbel
      have iBr := HIN.out.2.2.1.below hbel
      have rbr := HIN.out.2.2.2.1.below hbel
      have hsw := Nat.le_trans HIN.out.2.2.2.2.2 hbel.size
      have HBW := Lib.hid (below_step HIN.out.2.2.2.2.1 hbel)
      have HPR := Lib.hid hpr
      have c0 := hinr.c0
      have c1 := hinr.c1
      have C1 := fun n => lists_any A c K1 (wr.drewN n) (iAr.below (below_drewN (Below.refl _ _) n)) hKA (by omega)
      clear hk9 hprs hlt21 hpr hbel iAr
      go_wp2
      go_region_law (first
        | (go_simp; go_at_call 109; refine (lists_any B d K2 wA (iBr.below bA2) hKB (by omega)).mono ?_; rintro e wB ⟨AB, cB, rfl, oB, bB⟩; have hinB := (hinr.below bA2).below bB; have sB := And.intro hinB.c0 hinB.c1)
        | (go_simp; go_at_call 109; refine (C1 _).mono ?_; rintro e wA ⟨AA, cA, rfl, oA, bA⟩; have bA2 : Below wr.heap.size wr wA := ⟨bA.os, bA.tape, bA.output, bA.size, bA.block⟩; have sA := And.intro (hinr.below bA2).c0 (hinr.below bA2).c1)
        | (go_simp; go_at_call 110; refine (cloneA_n ⟨g, 2, none⟩ r.ac 6 6 wB h6 (fun j v hv => by rw [Addr.add_lit, hinB.cell, ins_ac h6 (by have := (List.getElem?_eq_some_iff.1 hv).1; rw [acs_len, h6] at this; omega)]; exact hv) (by omega)).mono ?_; rintro e wC ⟨AC, cC, rfl, oC, bC⟩; have sC := And.intro (hinB.below bC).c0 (hinB.below bC).c1; have rC := ((rbr.below bA2).below bB).below bC; have x0 := rC.c0; have x1 := rC.c1; have x2 := rC.c2; have x3 := rC.c3; have y0 := rC.fz 0; have y1 := rC.fz 1; have y2 := rC.fz 2; have y3 := rC.fz 3)
        | fail)
      all_goals (
        have e1 := HF.out.1
        have e2 := HF.out.2.1
        rw [e1] at oA ⊢
        rw [e2] at oB ⊢
        have M := Lib.hid (run_end HPR.out HBW.out hsw oA bA2 oB bB h6 oC bC rC)
        clear oA oB oC bA bA2 bB bC rC sA sB sC x0 x1 x2 x3 y0 y1 y2 y3 hinB hinr iBr rbr c0 c1 C1 e1 e2
        go_wp2
        refine bodyPost_ret (res_run _ rfl M.out.1) rfl ⟨AA, AB, AC, A5, cA, cB, cC, c5, ?_, M.out.2.1, M.out.2.2⟩
        unfold RVal
        rw [h6])
end Go.Proofs.Ytbkdhjmfphhhoaa
