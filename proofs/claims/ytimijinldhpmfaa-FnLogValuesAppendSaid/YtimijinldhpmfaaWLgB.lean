/- The walk of chapter 31's law on the values behind an append. -/
import Derived.Test.YtimijinldhpmfaaWLgA
import Derived.Deep.RegionHeld3
namespace Go.Proofs.Ytimijinldhpmfaa
open Go.RowKit

theorem own_none {w : World} {base T : Nat} {A : Option Addr} {c n : Nat} {xs : List Value} (h : w.ownsRow base T 1 (.slice A n c) n xs) : A = none → n = 0 ∧ c = 0 := by
  rcases h.2 with ⟨hv, h0⟩ | ⟨g, cap, cur, hv, _⟩
  · injection hv with hA hn hc
    exact fun _ => ⟨h0, hc⟩
  · injection hv with hA
    intro e
    rw [hA] at e
    cases e
theorem vals_app (l : List En) (x : En) : vals (l ++ [x]) = if x.2 = 0 then vals l ++ [x.1] else vals l := by
  unfold vals
  rw [List.filter_append, List.map_append]
  by_cases h : x.2 = 0 <;> simp [h]
theorem at_d {P : Program} {w : World} {ops : Array Oper} {o : Oper} {a : Act} {K : Act → World → Prop} {Q : Exit → Act → World → Prop} {E : Prop} {d : Nat} (_ : o.dst = some d) (h : if Region.wanted o (yielded ops a.tmps) = true then Oper.wp P o a w K Q else E) :
    if Region.wanted o (yielded ops a.tmps) = true then Oper.wp P o a w K Q else E := h
theorem at_s {P : Program} {w : World} {ops : Array Oper} {o : Oper} {a : Act} {K : Act → World → Prop} {Q : Exit → Act → World → Prop} {E : Prop} (i : Nat) (v : Value) (_ : a.tmps[i]? = some v) (h : if Region.wanted o (yielded ops a.tmps) = true then Oper.wp P o a w K Q else E) :
    if Region.wanted o (yielded ops a.tmps) = true then Oper.wp P o a w K Q else E := h
section
variable {P : Program} (w : World)
/-- append of a slice that reads as l2, nil or not, onto a row of the call's own, at a step of a region that draws its order. -/
theorem step_ap {ops : Array Oper} {o : Oper} {a : Act} {K : Act → World → Prop} {Q : Exit → Act → World → Prop} {E : Prop} (hw : Region.wanted o (yielded ops a.tmps) = true) (s x : Operand) (t : TypeId)
    (ho : o.op = .call { callee := .builtin .append, args := #[s, x], argTypes := #[t, t] })
    (base : Nat) (e : TypeId) (i : TypeInfo) (ht : P.underlying t = some (.slice e)) (hi : P.info? e = some i) (hz : i.zero = some (.int .i64 0)) (hsize : i.size = 1) (hby : i.bytes = 8)
    (v : Value) (l1 : List Int) (hs : a.eval s = v) (A : Option Addr) (c : Nat) (l2 : List Int) (n2 : Nat) (hx : a.eval x = .slice A n2 c)
    (hown : w.ownsRow base e 1 v l1.length (l1.map (Value.int .i64))) (hr : IL w A l2) (hn : n2 = l2.length) (hc : A = none → l2.length = 0 ∧ c = 0)
    (hl : l1.length + l2.length ≤ 1000000) (hbase : base ≤ w.heap.size)
    (h : ∀ A' c' w', w'.ownsRow base e 1 (.slice A' (l1 ++ l2).length c') (l1 ++ l2).length ((l1 ++ l2).map (Value.int .i64)) → w.grownBy w' v.ownBlock → K (a.put o.dst (.slice A' (l1 ++ l2).length c')) w') :
    if Region.wanted o (yielded ops a.tmps) = true then Oper.wp P o a w K Q else E := by
  rw [if_pos hw]
  subst hn
  have R : ∃ v' w', (Builtin.append_ #[t, t] o.type #[v, .slice A l2.length c]).run P w = .ok v' w' ∧ w'.ownsRow base e 1 v' (l1 ++ l2).length ((l1 ++ l2).map (Value.int .i64)) ∧ w.grownBy w' v.ownBlock := by
    rcases A with _ | ad
    · obtain ⟨h0, rfl⟩ := hc rfl
      obtain rfl := List.eq_nil_of_length_eq_zero h0
      exact ⟨v, w, run_append_owned_none w base t o.type e i 1 ht hi v _ _ hown, by simpa using hown, World.grownBy.refl w _⟩
    · have hcells : ∀ j u, (l2.map (Value.int .i64))[j]? = some u → w.cell? (ad.add j) = some u := by
        intro j u hu
        rcases hr with rfl | ⟨b, off, e, _, hcell⟩
        · simp at hu
        · injection e with e
          subst e
          rw [Addr.add_lit]
          rw [List.getElem?_map] at hu
          obtain ⟨x, hx, rfl⟩ := Option.map_eq_some_iff.1 hu
          exact hcell j x hx
      obtain ⟨v', w', hrun, h2, h3, _⟩ := run_append_own (P := P) w base t o.type e i (.int .i64 0) 1 8 ht hi hz hsize hby rfl (by omega) v _ _ hown ad l2.length c (l2.map (Value.int .i64)) (by simp) hcells (ints_oneCell .i64 l2)
        (by unfold maxLen; omega) (by omega) hbase
      exact ⟨v', w', hrun, by simpa using h2, h3⟩
  obtain ⟨v', w', hrun, h2, h3⟩ := R
  obtain ⟨A', c', rfl⟩ := own_slice h2
  unfold Oper.wp execOp
  simp only [ho, resolve, invoke, builtin, Sem.run_bind, Sem.run_pure, Result.andThen_ok, List.map_toArray, List.map_cons, List.map_nil, hs, hx, hrun]
  exact h A' c' w' h2 h3
end
theorem il_one {w : World} {b : Nat} {x : Int} {T : TypeId} (h : w.heap[b]? = some (.cells #[.int .i64 x] T (0, 0))) : IL w (some ⟨b, 0, none⟩) [x] := by
  refine .inr ⟨b, 0, rfl, (Array.getElem?_eq_some_iff.1 h).1, fun j y hy => ?_⟩
  match j with
  | 0 =>
    simp at hy
    subst hy
    rw [cell_of_row w b (0 + 0) _ _ (0, 0) h]
    rfl
  | j + 1 => simp at hy
theorem heap1 (v : World) (o o' : Obj) : ((v.alloc o).alloc o').heap[v.heap.size]? = some o := (Below.heap_alloc (v.alloc o) o' v.heap.size (by simp)).trans (heap_alloc_new v o)
theorem heap2 (v : World) (o o' : Obj) : ((v.alloc o).alloc o').heap[v.heap.size + 1]? = some o' := by have := heap_alloc_new (v.alloc o) o'; rwa [show (v.alloc o).heap.size = v.heap.size + 1 by simp] at this
theorem row1 (w : World) (base : Nat) (h : base ≤ w.heap.size) : (w.alloc (.cells #[] 3)).ownsRow base 3 1 (.slice (some ⟨w.heap.size, 0, none⟩) 0 0) ([] : List Int).length (([] : List Int).map (Value.int .i64)) := World.ownsRow_made w #[] 0 h (by unfold maxLen; omega) (by simp)
theorem row2 (w : World) (base : Nat) (h : base ≤ w.heap.size) (o : Obj) : ((w.alloc o).alloc (.cells #[] 3)).ownsRow base 3 1 (.slice (some ⟨w.heap.size + 1, 0, none⟩) 0 0) ([] : List Int).length (([] : List Int).map (Value.int .i64)) := by
  have := row1 (w.alloc o) base (by rw [World.size_alloc]; omega)
  rwa [World.size_alloc] at this
set_option maxRecDepth 100000 in
set_option maxHeartbeats 12800000 in
theorem walkLogValuesAppend (A : Option Addr) (c : Nat) (l : List Int) (w : World) (ha : BL w A l) (hc : l.length ≤ c) (hm : l.length ≤ maxLen) (hmc : c ≤ maxLen) :
    Calls Try.prog 11 #[.slice A l.length c] w fun e w' => e = .returned (.bool true) ∧ Below w.heap.size w w' := by
  have hm1 := hm
  unfold maxLen at hm1
  by_cases hl : l.length ≤ 1048576
  · have ez : decide (1048576 < (l.length : Int)) = false := by simp; omega
    obtain ⟨i1, hj0, hj1, hj2, hj3⟩ := info_parts int_info
    go_enter Try.func11, Try.ntmps11
    go_wp2_with fail
    refine (dDrawLogAppend_any _ _ _ _ ha hc hm hmc).mono ?_
    rintro e w1 ⟨L, n, y, B, d, rfl, n1, n4, hL, D⟩
    obtain ⟨hE, hd, hdm, ⟨b, rfl⟩, b1⟩ := D
    clear ha hc hm hmc
    obtain ⟨y0, y1⟩ := y
    have N := Lib.hid (AFEn.new w1 (y0, y1) 28)
    have B0 : Below w1.heap.size w1 (w1.alloc (.cells #[.int .i64 y0, .int .i64 y1] 28)) := (Below.refl _ w1).alloc (Nat.le_refl _) _
    have hE := hE.below B0
    have BB := below_step b1 B0
    have LC := Lib.hid (lapp_cases L n (y0, y1))
    clear b1 B0
    obtain ⟨⟨M, t⟩, hr⟩ : ∃ r, r = lapp L n (y0, y1) := ⟨_, rfl⟩
    have HR := Lib.hid hr
    have hM13 : M.length ≤ 13 := by
      have := LC.out
      rw [← hr] at this
      rcases this with ⟨_, _, _, e⟩ | ⟨e, _⟩ | e <;> (injection e with e1 e2; subst e1; simp; try omega)
    rw [← hr] at LC
    clear hr
    go_wp2_with fail
    refine (sLogAppend_any _ _ _ _ (y0, y1) _ hE (by intro h; cases h) (by omega)).mono ?_
    rw [← HR.out]
    rintro e w2 ⟨A2, c2, rfl, o2, b2⟩
    have hE := hE.below b2
    have N := Lib.hid (N.out.below b2)
    have I2 := o2.rd
    have BB := below_step BB b2
    obtain ⟨u0, u1⟩ := N.out.c
    simp only at u0 u1
    clear b2 o2
    go_wp2_with fail
    refine (iLogAppend_any _ _ _ _ (y0, y1) _ hE (by omega)).mono ?_
    rw [← HR.out]
    rintro e w3 ⟨A3, c3, rfl, o3, b3⟩
    have hE := hE.below b3
    have N := Lib.hid (N.out.below b3)
    have I2 := I2.below b3
    have I3 := o3.rd
    have hA3 := en_some o3
    have hc3 := en_cap o3
    have BB := below_step BB b3
    clear b3 o3 u0 u1 HR
    simp only at I2 I3 hA3 hc3 ⊢
    go_wp2_with fail
    refine (sameLog_yes _ _ _ _ _ _ I3 I2 (by omega)).mono ?_
    rintro e w4 ⟨rfl, b4⟩
    have hE := hE.below b4
    have N := Lib.hid (N.out.below b4)
    have I2 := I2.below b4
    have I3 := I3.below b4
    have BB := below_step BB b4
    clear b4
    cases t with
    | false =>
      go_wp2_with fail
      refine (sameLog_yes _ _ _ _ _ _ I3 I2 (by omega)).mono ?_
      rintro e w5 ⟨rfl, b5⟩
      have BB := below_step BB b5
      clear b5 hE I2 I3 hA3 hc3
      have LC := LC.out
      rcases LC with ⟨_, _, _, e⟩ | ⟨e, h12⟩ | e
      · injection e with _ e
        cases e
      · clear N
        go_wp2
        go_ret
        exact ⟨rfl, BB⟩
      · clear N
        go_wp2
        go_ret
        exact ⟨rfl, BB⟩
    | true =>
      have LC := LC.out
      rcases LC with ⟨hok, hy, h12, e⟩ | ⟨e, _⟩ | e
      rotate_left
      · injection e with _ e
        cases e
      · injection e with _ e
        cases e
      injection e with e _
      subst e
      have hlen : (L ++ [((y0, y1) : En)]).length = L.length + 1 := by simp
      have OK := Lib.hid (lvals_yes (okL_app hok hy h12))
      have hvl := vals_len L
      obtain ⟨V, hV⟩ : ∃ V, V = vals L := ⟨_, rfl⟩
      rw [← hV] at hvl
      have HV := Lib.hid hV
      have HO := Lib.hid hok
      clear hV hok hy h12 I2 hA3
      go_wp2_with fail
      refine (iLogValues_any _ _ _ _ _ hE (by omega)).mono ?_
      rw [lvals_yes HO.out, ← HV.out]
      rintro e w5 ⟨A5, c5, rfl, o5, b5⟩
      have HI := Lib.hid (IL.of_own o5).1
      have hA5 := own_none o5
      have NF := Lib.hid (N.out.below b5)
      have H3 := Lib.hid (I3.below b5)
      have BF := Lib.hid (below_step BB b5)
      obtain ⟨r0, r1⟩ := NF.out.c
      simp only at r0 r1
      clear hE I3 o5 b5
      by_cases hy1 : y1 = 0
      · subst hy1
        obtain ⟨V2, hV2⟩ : ∃ V2, V2 = V ++ [y0] := ⟨_, rfl⟩
        have HX := Lib.hid (OK.out.trans ((vals_app L (y0, 0)).trans (show _ = V2 by rw [if_pos rfl, ← HV.out, hV2])))
        have HV2 := Lib.hid hV2
        clear hV2
        go_wp2
        refine wp_region_noPanic ?_
        refine wp_region_held_drew (S := fun W => Below w5.heap.size w5 W) (by kernel_rfl) (Below.refl _ w5).drew (fun hH => ?_)
        generalize w5.drew = wd at hH ⊢
        refine wpAnyH_take (i := 1) (v := ?_) rfl (by kernel_rfl) (by kernel_rfl) (by kernel_rfl) (fun _ _ _ h => h) (Or.inl ⟨by kernel_rfl, ?_⟩) (by assumption) ?_
        rotate_left
        · (intro W hSw; go_simp; try with_reducible rfl)
        try simp only [Act.put, List.getElem_toArray, List.getElem_cons_succ, List.getElem_cons_zero, List.setIfInBounds_toArray, List.set_cons_zero, List.set_cons_succ]
        refine wpAnyH_take (i := 3) (v := ?_) rfl (by kernel_rfl) (by kernel_rfl) (by kernel_rfl) (fun _ _ _ h => h) (Or.inl ⟨by kernel_rfl, ?_⟩) (by assumption) ?_
        rotate_left
        · (intro W hSw; go_simp; try with_reducible rfl)
        try simp only [Act.put, List.getElem_toArray, List.getElem_cons_succ, List.getElem_cons_zero, List.setIfInBounds_toArray, List.set_cons_zero, List.set_cons_succ]
        refine wpAnyH_take (i := 4) (v := ?_) rfl (by kernel_rfl) (by kernel_rfl) (by kernel_rfl) (fun _ _ _ h => h) (Or.inl ⟨by kernel_rfl, ?_⟩) (by assumption) ?_
        rotate_left
        · (intro W hSw; have u0 := (NF.out.below hSw).c.1; simp only at u0; go_simp; try with_reducible rfl)
        try simp only [Act.put, List.getElem_toArray, List.getElem_cons_succ, List.getElem_cons_zero, List.setIfInBounds_toArray, List.set_cons_zero, List.set_cons_succ]
        refine wpAnyH_ready (rs := [0, 5]) (by kernel_rfl) (by simp) ?_
        refine AllReadyH.cons rfl (fun K hK => ?_) (AllReadyH.cons rfl (fun K hK => ?_) (AllReadyH.nil))
        · have E := row1 wd w5.heap.size hH.size
          try rw [World.size_alloc] at E
          have hH2 := hH.alloc hH.size (.cells #[] 3)
          go_simp
          refine hK.out _ _ hH2 (fun hH => ?_)
          clear hK K hH2
          try simp only [Act.put, List.getElem_toArray, List.getElem_cons_succ, List.getElem_cons_zero, List.setIfInBounds_toArray, List.set_cons_zero, List.set_cons_succ]
          refine wpAnyH_ready (rs := [2, 5]) (by kernel_rfl) (by simp) ?_
          refine AllReadyH.cons rfl (fun K hK => ?_) (AllReadyH.cons rfl (fun K hK => ?_) (AllReadyH.nil))
          · refine step_ap _ (by kernel_rfl) (.tmp 61) (.tmp 62) 35 (by rfl) w5.heap.size 3 i1 Try.underlying35 hj0 hj1 hj2 hj3 _ [] (by rfl) A5 c5 V V.length (by rfl) E (HI.out.below hH) rfl hA5 (by simp; omega) hH.size ?_
            intro A7 c7 w7 R g7
            rw [List.nil_append] at R
            refine hK.out _ _ (hH.grown g7 hH.size (fun x hx => (E.lt x hx).1)) (fun hH => ?_)
            clear hK K
            try simp only [Act.put, List.getElem_toArray, List.getElem_cons_succ, List.getElem_cons_zero, List.setIfInBounds_toArray, List.set_cons_zero, List.set_cons_succ]
            refine wpAnyH_ready (rs := [5]) (by kernel_rfl) (by simp) ?_
            refine AllReadyH.cons rfl (fun K hK => ?_) (AllReadyH.nil)
            · have F := heap_alloc_new w7 (.cells #[.int .i64 y0] 3)
              try rw [World.size_alloc] at F
              have R := World.ownsRow.alloc R (.cells #[.int .i64 y0] 3)
              have hH2 := hH.alloc hH.size (.cells #[.int .i64 y0] 3)
              go_simp
              refine hK.out _ _ hH2 (fun hH => ?_)
              clear hK K hH2
              try simp only [Act.put, List.getElem_toArray, List.getElem_cons_succ, List.getElem_cons_zero, List.setIfInBounds_toArray, List.set_cons_zero, List.set_cons_succ]
              refine wpAnyH_ready (rs := [6]) (by kernel_rfl) (by simp) ?_
              refine AllReadyH.cons rfl (fun K hK => ?_) AllReadyH.nil
              refine step_ap _ (by kernel_rfl) (.tmp 63) (.tmp 66) 35 (by rfl) w5.heap.size 3 i1 Try.underlying35 hj0 hj1 hj2 hj3 (.slice A7 V.length c7) V (by rfl) _ 1 [y0] 1 (by rfl) R (il_one F) rfl (by intro h; cases h) (by simp; omega) hH.size ?_
              rw [← HV2.out]
              intro A8 c8 w8 R2 g8
              refine hK.out _ _ (hH.grown g8 hH.size (fun x hx => (R.lt x hx).1)) (fun hH => ?_)
              clear hK K
              try simp only [Act.put, List.getElem_toArray, List.getElem_cons_succ, List.getElem_cons_zero, List.setIfInBounds_toArray, List.set_cons_zero, List.set_cons_succ]
              refine wpAnyH_take (i := 7) (v := ?_) rfl (by kernel_rfl) (by kernel_rfl) (by kernel_rfl) (fun _ _ _ h => h) (Or.inl ⟨by kernel_rfl, ?_⟩) (by assumption) ?_
              rotate_left
              · (intro W hSw; go_simp; try with_reducible rfl)
              try simp only [Act.put, List.getElem_toArray, List.getElem_cons_succ, List.getElem_cons_zero, List.setIfInBounds_toArray, List.set_cons_zero, List.set_cons_succ]
              refine wpAnyH_done (by kernel_rfl) ?_ _
              refine NoPanic.normal ?_
              have BZ := Lib.hid (below_step BF.out hH)
              have I8 := Lib.hid (IL.of_own R2).1
              have H8 := Lib.hid (H3.out.below hH)
              have hl8 : V2.length ≤ 14 := by rw [HV2.out]; simp; omega
              clear hH r0 r1
              go_wp2_with fail
              have T8 := iLogValues_any _ c3 _ n _ H8.out (by rw [hlen]; omega)
              rw [hlen, HX.out] at T8
              refine T8.mono ?_
              clear T8
              rintro e w9 ⟨A9, c9, rfl, o9, b9⟩
              have I9 := (IL.of_own o9).1
              have BY := below_step BZ.out b9
              have I8 := I8.out.below b9
              clear o9 b9
              go_wp2_with fail
              refine (sameInts_yes _ _ _ _ _ _ I9 I8 (by omega)).mono ?_
              rintro e wz ⟨rfl, bz⟩
              have BY := below_step BY bz
              clear bz I9 I8
              go_wp2
              go_ret
              exact ⟨rfl, BY⟩
          · have F := heap_alloc_new (wd.alloc (.cells #[] 3)) (.cells #[.int .i64 y0] 3)
            try rw [World.size_alloc] at F
            have hne := Nat.ne_of_gt (World.ownsRow.lt E _ rfl).2
            have E := World.ownsRow.alloc E (.cells #[.int .i64 y0] 3)
            try rw [World.size_alloc] at hne
            have hH2 := hH.alloc hH.size (.cells #[.int .i64 y0] 3)
            go_simp
            refine hK.out _ _ hH2 (fun hH => ?_)
            clear hK K hH2
            try simp only [Act.put, List.getElem_toArray, List.getElem_cons_succ, List.getElem_cons_zero, List.setIfInBounds_toArray, List.set_cons_zero, List.set_cons_succ]
            refine wpAnyH_ready (rs := [2]) (by kernel_rfl) (by simp) ?_
            refine AllReadyH.cons rfl (fun K hK => ?_) (AllReadyH.nil)
            · refine step_ap _ (by kernel_rfl) (.tmp 61) (.tmp 62) 35 (by rfl) w5.heap.size 3 i1 Try.underlying35 hj0 hj1 hj2 hj3 _ [] (by rfl) A5 c5 V V.length (by rfl) E (HI.out.below hH) rfl hA5 (by simp; omega) hH.size ?_
              intro A7 c7 w7 R g7
              rw [List.nil_append] at R
              have F := (g7.block _ (Array.getElem?_eq_some_iff.1 F).1 (fun h => hne (Option.some.inj h))).trans F
              refine hK.out _ _ (hH.grown g7 hH.size (fun x hx => (E.lt x hx).1)) (fun hH => ?_)
              clear hK K
              try simp only [Act.put, List.getElem_toArray, List.getElem_cons_succ, List.getElem_cons_zero, List.setIfInBounds_toArray, List.set_cons_zero, List.set_cons_succ]
              refine wpAnyH_ready (rs := [6]) (by kernel_rfl) (by simp) ?_
              refine AllReadyH.cons rfl (fun K hK => ?_) AllReadyH.nil
              refine step_ap _ (by kernel_rfl) (.tmp 63) (.tmp 66) 35 (by rfl) w5.heap.size 3 i1 Try.underlying35 hj0 hj1 hj2 hj3 (.slice A7 V.length c7) V (by rfl) _ 1 [y0] 1 (by rfl) R (il_one F) rfl (by intro h; cases h) (by simp; omega) hH.size ?_
              rw [← HV2.out]
              intro A8 c8 w8 R2 g8
              refine hK.out _ _ (hH.grown g8 hH.size (fun x hx => (R.lt x hx).1)) (fun hH => ?_)
              clear hK K
              try simp only [Act.put, List.getElem_toArray, List.getElem_cons_succ, List.getElem_cons_zero, List.setIfInBounds_toArray, List.set_cons_zero, List.set_cons_succ]
              refine wpAnyH_take (i := 7) (v := ?_) rfl (by kernel_rfl) (by kernel_rfl) (by kernel_rfl) (fun _ _ _ h => h) (Or.inl ⟨by kernel_rfl, ?_⟩) (by assumption) ?_
              rotate_left
              · (intro W hSw; go_simp; try with_reducible rfl)
              try simp only [Act.put, List.getElem_toArray, List.getElem_cons_succ, List.getElem_cons_zero, List.setIfInBounds_toArray, List.set_cons_zero, List.set_cons_succ]
              refine wpAnyH_done (by kernel_rfl) ?_ _
              refine NoPanic.normal ?_
              have BZ := Lib.hid (below_step BF.out hH)
              have I8 := Lib.hid (IL.of_own R2).1
              have H8 := Lib.hid (H3.out.below hH)
              have hl8 : V2.length ≤ 14 := by rw [HV2.out]; simp; omega
              clear hH r0 r1
              go_wp2_with fail
              have T8 := iLogValues_any _ c3 _ n _ H8.out (by rw [hlen]; omega)
              rw [hlen, HX.out] at T8
              refine T8.mono ?_
              clear T8
              rintro e w9 ⟨A9, c9, rfl, o9, b9⟩
              have I9 := (IL.of_own o9).1
              have BY := below_step BZ.out b9
              have I8 := I8.out.below b9
              clear o9 b9
              go_wp2_with fail
              refine (sameInts_yes _ _ _ _ _ _ I9 I8 (by omega)).mono ?_
              rintro e wz ⟨rfl, bz⟩
              have BY := below_step BY bz
              clear bz I9 I8
              go_wp2
              go_ret
              exact ⟨rfl, BY⟩
        · have F := heap_alloc_new wd (.cells #[.int .i64 y0] 3)
          try rw [World.size_alloc] at F
          have hH2 := hH.alloc hH.size (.cells #[.int .i64 y0] 3)
          go_simp
          refine hK.out _ _ hH2 (fun hH => ?_)
          clear hK K hH2
          try simp only [Act.put, List.getElem_toArray, List.getElem_cons_succ, List.getElem_cons_zero, List.setIfInBounds_toArray, List.set_cons_zero, List.set_cons_succ]
          refine wpAnyH_ready (rs := [0]) (by kernel_rfl) (by simp) ?_
          refine AllReadyH.cons rfl (fun K hK => ?_) (AllReadyH.nil)
          · have E := row1 (wd.alloc (.cells #[.int .i64 y0] 3)) w5.heap.size hH.size
            try rw [World.size_alloc] at E
            have hne := Nat.ne_of_lt (Array.getElem?_eq_some_iff.1 F).1
            have F := (Below.heap_alloc (wd.alloc (.cells #[.int .i64 y0] 3)) (.cells #[] 3) _ (Array.getElem?_eq_some_iff.1 F).1).trans F
            try rw [World.size_alloc] at hne
            have hH2 := hH.alloc hH.size (.cells #[] 3)
            go_simp
            refine hK.out _ _ hH2 (fun hH => ?_)
            clear hK K hH2
            try simp only [Act.put, List.getElem_toArray, List.getElem_cons_succ, List.getElem_cons_zero, List.setIfInBounds_toArray, List.set_cons_zero, List.set_cons_succ]
            refine wpAnyH_ready (rs := [2]) (by kernel_rfl) (by simp) ?_
            refine AllReadyH.cons rfl (fun K hK => ?_) (AllReadyH.nil)
            · refine step_ap _ (by kernel_rfl) (.tmp 61) (.tmp 62) 35 (by rfl) w5.heap.size 3 i1 Try.underlying35 hj0 hj1 hj2 hj3 _ [] (by rfl) A5 c5 V V.length (by rfl) E (HI.out.below hH) rfl hA5 (by simp; omega) hH.size ?_
              intro A7 c7 w7 R g7
              rw [List.nil_append] at R
              have F := (g7.block _ (Array.getElem?_eq_some_iff.1 F).1 (fun h => hne (Option.some.inj h))).trans F
              refine hK.out _ _ (hH.grown g7 hH.size (fun x hx => (E.lt x hx).1)) (fun hH => ?_)
              clear hK K
              try simp only [Act.put, List.getElem_toArray, List.getElem_cons_succ, List.getElem_cons_zero, List.setIfInBounds_toArray, List.set_cons_zero, List.set_cons_succ]
              refine wpAnyH_ready (rs := [6]) (by kernel_rfl) (by simp) ?_
              refine AllReadyH.cons rfl (fun K hK => ?_) AllReadyH.nil
              refine step_ap _ (by kernel_rfl) (.tmp 63) (.tmp 66) 35 (by rfl) w5.heap.size 3 i1 Try.underlying35 hj0 hj1 hj2 hj3 (.slice A7 V.length c7) V (by rfl) _ 1 [y0] 1 (by rfl) R (il_one F) rfl (by intro h; cases h) (by simp; omega) hH.size ?_
              rw [← HV2.out]
              intro A8 c8 w8 R2 g8
              refine hK.out _ _ (hH.grown g8 hH.size (fun x hx => (R.lt x hx).1)) (fun hH => ?_)
              clear hK K
              try simp only [Act.put, List.getElem_toArray, List.getElem_cons_succ, List.getElem_cons_zero, List.setIfInBounds_toArray, List.set_cons_zero, List.set_cons_succ]
              refine wpAnyH_take (i := 7) (v := ?_) rfl (by kernel_rfl) (by kernel_rfl) (by kernel_rfl) (fun _ _ _ h => h) (Or.inl ⟨by kernel_rfl, ?_⟩) (by assumption) ?_
              rotate_left
              · (intro W hSw; go_simp; try with_reducible rfl)
              try simp only [Act.put, List.getElem_toArray, List.getElem_cons_succ, List.getElem_cons_zero, List.setIfInBounds_toArray, List.set_cons_zero, List.set_cons_succ]
              refine wpAnyH_done (by kernel_rfl) ?_ _
              refine NoPanic.normal ?_
              have BZ := Lib.hid (below_step BF.out hH)
              have I8 := Lib.hid (IL.of_own R2).1
              have H8 := Lib.hid (H3.out.below hH)
              have hl8 : V2.length ≤ 14 := by rw [HV2.out]; simp; omega
              clear hH r0 r1
              go_wp2_with fail
              have T8 := iLogValues_any _ c3 _ n _ H8.out (by rw [hlen]; omega)
              rw [hlen, HX.out] at T8
              refine T8.mono ?_
              clear T8
              rintro e w9 ⟨A9, c9, rfl, o9, b9⟩
              have I9 := (IL.of_own o9).1
              have BY := below_step BZ.out b9
              have I8 := I8.out.below b9
              clear o9 b9
              go_wp2_with fail
              refine (sameInts_yes _ _ _ _ _ _ I9 I8 (by omega)).mono ?_
              rintro e wz ⟨rfl, bz⟩
              have BY := below_step BY bz
              clear bz I9 I8
              go_wp2
              go_ret
              exact ⟨rfl, BY⟩
      · have hy0 : (y1 == 0) = false := by simpa using hy1
        have HX := Lib.hid (OK.out.trans ((vals_app L (y0, y1)).trans (by rw [if_neg hy1, ← HV.out])))
        go_wp2_with fail
        have T8 := iLogValues_any _ c3 _ n _ H3.out (by rw [hlen]; omega)
        rw [hlen, HX.out] at T8
        refine T8.mono ?_
        clear T8
        rintro e w9 ⟨A9, c9, rfl, o9, b9⟩
        have I9 := (IL.of_own o9).1
        have BY := below_step BF.out b9
        have I8 := HI.out.below b9
        clear o9 b9
        go_wp2_with fail
        refine (sameInts_yes _ _ _ _ _ _ I9 I8 (by omega)).mono ?_
        rintro e wz ⟨rfl, bz⟩
        have BY := below_step BY bz
        clear bz I9 I8
        go_wp2
        go_ret
        exact ⟨rfl, BY⟩
  · have ez : decide (1048576 < (l.length : Int)) = true := by simp; omega
    clear ha hc hm hmc hl
    go_enter Try.func11, Try.ntmps11
    go_wp2
    go_ret
    exact ⟨rfl, Below.refl _ _⟩

end Go.Proofs.Ytimijinldhpmfaa
