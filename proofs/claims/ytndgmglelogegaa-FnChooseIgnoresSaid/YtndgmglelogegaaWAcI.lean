/- The walk of the law that replies without a value do not matter. -/
import Derived.Test.YtndgmglelogegaaWAcL
import Derived.Deep.RegionLaw
namespace Go.Proofs.Ytndgmglelogegaa
open Go.RowKit

/-- The step at hand is the one that fills slot d: asked first, so that the wrong arm falls at once. -/
theorem at_dst {P : Program} {w : World} {ops : Array Oper} {o : Oper} {a : Act} {K : Act → World → Prop} {Q : Exit → Act → World → Prop} {E : Prop} {d : Nat} (_ : o.dst = some d) (h : if Region.wanted o (yielded ops a.tmps) = true then Oper.wp P o a w K Q else E) :
    if Region.wanted o (yielded ops a.tmps) = true then Oper.wp P o a w K Q else E := h
/-- Slot i holds v. -/
theorem at_t {P : Program} {w : World} {ops : Array Oper} {o : Oper} {a : Act} {K : Act → World → Prop} {Q : Exit → Act → World → Prop} {E : Prop} (i : Nat) (v : Value) (_ : a.tmps[i]? = some v) (h : if Region.wanted o (yielded ops a.tmps) = true then Oper.wp P o a w K Q else E) :
    if Region.wanted o (yielded ops a.tmps) = true then Oper.wp P o a w K Q else E := h
/-- An append at a step of a region that draws its order, the step's guard being met. -/
theorem step_append_g {P : Program} (w : World) {ops : Array Oper} {o : Oper} {a : Act} {K : Act → World → Prop} {Q : Exit → Act → World → Prop} {E : Prop} {d : Nat} (_ : o.dst = some d) (hgd : Region.wanted o (yielded ops a.tmps) = true) (s x : Operand) (t : TypeId)
    (ho : o.op = .call { callee := .builtin .append, args := #[s, x], argTypes := #[t, t] })
    (base : Nat) (e : TypeId) (i : TypeInfo) (z : Value) (size bytes : Nat) (ht : P.underlying t = some (.slice e)) (hi : P.info? e = some i) (hz : i.zero = some z)
    (hsize : i.size = size) (hby : i.bytes = bytes) (hzs : z.cells.size = size) (hsz : 0 < size)
    (v : Value) (n : Nat) (xs : List Value) (hs : a.eval s = v) (hown : w.ownsRow base e size v n xs)
    (ad : Addr) (m c : Nat) (news : List Value) (hx : a.eval x = .slice (some ad) m c) (hl : news.length = m * size) (hnews : ∀ j u, news[j]? = some u → w.cell? (ad.add j) = some u) (h1 : ∀ u ∈ news, u.oneCell' = true)
    (h63 : n + m ≤ maxLen) (hbytes : (n + m) * bytes ≤ 140737488355328) (hbase : base ≤ w.heap.size)
    (h : ∀ v' w', w'.ownsRow base e size v' (n + m) (xs ++ news) → w.grownBy w' v.ownBlock → K (a.put o.dst v') w') :
    if Region.wanted o (yielded ops a.tmps) = true then Oper.wp P o a w K Q else E := by
  rw [if_pos hgd]
  exact wp_append_own w s x t ho base e i z size bytes ht hi hz hsize hby hzs hsz v n xs hs hown ad m c news hx hl hnews h1 h63 hbytes hbase fun v' w' h2 h3 _ => h v' w' h2 h3


theorem acs_some' {l : List Ac} {j : Nat} {u : Value} (h : (acs l)[j]? = some u) : ∃ (k : Nat) (x : Ac), l[k]? = some x ∧ (u = .int .i64 x.1 ∨ u = .int .i64 x.2.1 ∨ u = .int .i64 x.2.2) := by
  have hj : j < l.length * 3 := by rw [← acs_len]; exact (List.getElem?_eq_some_iff.1 h).1
  have hk : j / 3 < l.length := by omega
  have hx : l[j / 3]? = some l[j / 3] := List.getElem?_eq_getElem hk
  obtain ⟨h0, h1, h2⟩ := acs_at l (j / 3) _ hx
  refine ⟨j / 3, _, hx, ?_⟩
  have : j = j / 3 * 3 ∨ j = j / 3 * 3 + 1 ∨ j = j / 3 * 3 + 2 := by omega
  rcases this with e | e | e
  · rw [← e, h] at h0; exact .inl (Option.some.inj h0)
  · rw [← e, h] at h1; exact .inr (.inl (Option.some.inj h1))
  · rw [← e, h] at h2; exact .inr (.inr (Option.some.inj h2))
theorem OA.below' {w w' : World} {base : Nat} {A : Option Addr} {c : Nat} {l : List Ac} (h : OA w base A c l) (hb : Below w.heap.size w w') : OA w' base A c l :=
  World.ownsRow.kept h (row := none) ⟨hb.os, hb.tape, hb.output, hb.size, fun i hi _ => hb.block i hi⟩ (by cases (Value.slice A l.length c).ownBlock <;> simp)
theorem row3_made (w : World) (base : Nat) (h : base ≤ w.heap.size) : OA (w.alloc (.cells #[] 24)) base (some ⟨w.heap.size, 0, none⟩) 0 [] := World.ownsRow_made w #[] 0 h (by unfold maxLen; omega) (by simp)
theorem row3_made2 (w : World) (base : Nat) (h : base ≤ w.heap.size) (o : Obj) : OA ((w.alloc o).alloc (.cells #[] 24)) base (some ⟨w.heap.size + 1, 0, none⟩) 0 [] := by
  have := row3_made (w.alloc o) base (by rw [World.size_alloc]; omega)
  rwa [World.size_alloc] at this
/-- The cells of a list at the start of a row. -/
theorem al_cells {w : World} {g : Nat} {l : List Ac} (h : AL w (some ⟨g, 0, none⟩) l) : ∀ (j : Nat) u, (acs l)[j]? = some u → w.cell? ((⟨g, 0, none⟩ : Addr).add j) = some u := by
  intro j u hu
  rcases h with rfl | ⟨b, off, hA, _, hc⟩
  · simp [acs] at hu
  · injection hA with hA
    injection hA with h1 h2
    subst h1; subst h2
    rw [Addr.add_lit]
    exact hc j u hu
theorem acs_one {l : List Ac} : ∀ u ∈ acs l, u.oneCell' = true := by
  intro u hu
  obtain ⟨j, hj⟩ := List.mem_iff_getElem?.1 hu
  obtain ⟨k, x, _, hx⟩ := acs_some' hj
  rcases hx with h | h | h <;> (subst h; rfl)

/-- The cells of one state stand while another row grows. -/
theorem three_kept {W W' : World} {row : Option Nat} {b : Nat} {P a v : Int} {T : Nat} (hg : W.grownBy W' row) (hW : W.heap[b]? = some (.cells #[.int .i64 P, .int .i64 a, .int .i64 v] T (0, 0))) (hne : some b ≠ row) : ∀ (j : Nat) u, ([.int .i64 P, .int .i64 a, .int .i64 v] : List Value)[j]? = some u → W'.cell? ((⟨b, 0, none⟩ : Addr).add j) = some u := by
  have hb : b < W.heap.size := (Array.getElem?_eq_some_iff.1 hW).1
  have h1 := (hg.block b hb hne).trans hW
  obtain ⟨c0, c1, c2⟩ := cells3 ⟨_, _, h1⟩
  intro j u hu
  match j with
  | 0 => simp at hu; subst hu; exact c0
  | 1 => simp at hu; subst hu; exact c1
  | 2 => simp at hu; subst hu; exact c2
  | j + 3 => simp at hu
theorem made3_second (w : World) (o : Obj) (P a v : Int) : ((w.alloc o).alloc (.cells #[.int .i64 P, .int .i64 a, .int .i64 v] 24)).heap[w.heap.size + 1]? = some (.cells #[.int .i64 P, .int .i64 a, .int .i64 v] 24 (0, 0)) := by
  have := heap_alloc_new (w.alloc o) (.cells #[.int .i64 P, .int .i64 a, .int .i64 v] 24)
  rwa [World.size_alloc] at this
theorem made3_first (w : World) (o : Obj) (P a v : Int) : ((w.alloc (.cells #[.int .i64 P, .int .i64 a, .int .i64 v] 24)).alloc o).heap[w.heap.size]? = some (.cells #[.int .i64 P, .int .i64 a, .int .i64 v] 24 (0, 0)) :=
  (Below.heap_alloc (w.alloc (.cells #[.int .i64 P, .int .i64 a, .int .i64 v] 24)) o w.heap.size (by rw [World.size_alloc]; omega)).trans (heap_alloc_new w _)
/-- A row of one state, made at once. -/
theorem row3_one (w : World) (P a v : Int) : (w.alloc (.cells #[.int .i64 P, .int .i64 a, .int .i64 v] 24)).ownsRow w.heap.size 24 3 (.slice (some ⟨w.heap.size, 0, none⟩) 1 1) 1 [.int .i64 P, .int .i64 a, .int .i64 v] :=
  ⟨rfl, .inr ⟨w.heap.size, 1, _, rfl, Nat.le_refl _, heap_alloc_new w _, Nat.le_refl _, by unfold maxLen; omega, rfl, rfl⟩⟩
theorem ch_at (A : Option Addr) (c n : Nat) (l : List Ac) (own r : Int) (W : World) (hi : AL W A l) (hn : n = l.length) (hv : chv l own = (r, true)) (hl : l.length ≤ 66) :
    Calls Try.prog 26 #[.slice A n c, .int .i64 own] W fun e w' => e = .returned (.tuple #[.int .i64 r, .bool true]) ∧ Below W.heap.size W w' := by
  subst hn
  have := iChoose_any A c l own W hi (by omega)
  rw [hv] at this
  exact this

theorem growB {a b c : World} {row : Option Nat} (hg : b.grownBy c row) (h : Below a.heap.size a b) (hs : a.heap.size ≤ b.heap.size) (hr : ∀ k, row = some k → a.heap.size ≤ k) : Below a.heap.size a c := h.grown hg hs hr
theorem app3 (l : List Ac) (P a v : Int) : acs l ++ [.int .i64 P, .int .i64 a, .int .i64 v] = acs (l ++ [(P, a, v)]) := by rw [acs_app]; rfl
set_option maxRecDepth 100000 in
set_option maxHeartbeats 20000000 in
theorem walkChIgn (A A' : Option Addr) (c c' : Nat) (l0 l' : List Int) (w : World) (ha : BL w A l0) (hc : l0.length ≤ c) (hm : l0.length ≤ maxLen) (hmc : c ≤ maxLen) (hm' : l'.length ≤ maxLen) :
    Calls Try.prog 8 #[.slice A l0.length c, .slice A' l'.length c'] w fun e w' => e = .returned (.bool true) ∧ Below w.heap.size w w' := by
  obtain ⟨i0, hi0, hz0, hz1, hz2⟩ := info_parts acp_info
  have hm1 := hm
  have hm2 := hm'
  unfold maxLen at hm1 hm2
  by_cases hl0 : l0.length ≤ 1048576
  · by_cases hl1 : l'.length ≤ 1048576
    · obtain ⟨ml, hml⟩ : ∃ ml, ml = l'.length := ⟨_, rfl⟩
      rw [← hml] at hl1 hm2 ⊢
      clear hml hm'
      go_enter Try.func8, Try.ntmps8
      go_wp2_with fail
      refine (drawCh_any _ _ _ _ ha hc hm hmc).mono ?_
      rintro e w1 ⟨l, own, A1, c1, hl4, ho8, ho9, rfl, a1, B1, g, rfl⟩
      clear ha hm hc hmc
      obtain ⟨⟨r, t⟩, hr⟩ : ∃ r, r = chv l own := ⟨_, rfl⟩
      have HR := Lib.hid hr
      clear hr
      go_wp2_with fail
      refine (sChoose_any _ _ _ own _ a1 (by omega)).mono ?_
      rintro e w2 ⟨rfl, b2⟩
      rw [← HR.out]
      have a2 := a1.below b2
      have B2 := below_step B1 b2
      clear a1 B1 b2
      go_wp2_with fail
      refine (iChoose_any _ _ _ own _ a2 (by omega)).mono ?_
      rintro e w3 ⟨rfl, b3⟩
      rw [← HR.out]
      have a3 := a2.below b3
      have B3 := below_step B2 b3
      clear a2 B2 b3
      cases t with
      | false =>
        clear a3
        go_wp2
        go_ret
        exact ⟨rfl, B3⟩
      | true =>
        have HB := Lib.hid (best_st l own)
        obtain ⟨hA, _, hrv⟩ := chv_yes HR.out.symm
        have hpos := HB.out.pos
        have hle := best_le HB.out hA
        have HZ := Lib.hid (And.intro hrv hA)
        clear hrv hA
        go_wp2
        go_loopw [11, 12] (fun h i wr => ∃ k : Nat, k ≤ l.length ∧ i = .int .i64 k ∧ h = .int .i64 (st (l.take k) own).1 ∧ w3 = wr) (fun _ i _ => l.length - (intOf i).toNat)
        case atStart => exact ⟨0, Nat.zero_le _, rfl, rfl, rfl⟩
        case round =>
          obtain ⟨k, hk, rfl, rfl, rfl⟩ := hrel
          by_cases hlt : k < l.length
          · obtain ⟨b, off, x, hAe, hx, d0, d1, d2⟩ := a3.at_ hlt
            obtain ⟨rfl, rfl⟩ : g = b ∧ 0 = off := by injection hAe with hAe; injection hAe with h1 h2; exact ⟨h1, h2⟩
            obtain ⟨x0, x1, x2⟩ := x
            have HT := Lib.hid (best_next (own := own) hx)
            have hki : (0 : Int) ≤ (k : Int) := by omega
            have hki2 : (k : Int) < (l.length : Int) := by omega
            clear hx hAe
            simp only [Nat.zero_add] at d0 d1 d2
            generalize hh : (st (l.take k) own).1 = h at *
            go_wp2
            go_roundw
            case rel => exact ⟨k + 1, by omega, by go_num, by rw [← HT.out], trivial⟩
            case measure => simp [intOf]; omega
          · rw [st_all hk hlt]
            have hkl : k = l.length := by omega
            subst hkl
            generalize hh : (st l own).1 = h at *
            by_cases h0 : 1 < h
            · have hne : ¬ h - 1 = 0 := by omega
              obtain ⟨q, hq⟩ : ∃ q, q = (ml : Int) % (h - 1) := ⟨_, rfl⟩
              have hq0 : 0 ≤ q := by rw [hq]; exact Int.emod_nonneg _ hne
              have hq1 : q < h - 1 := by rw [hq]; exact Int.emod_lt_of_pos _ (by omega)
              have HX := Lib.hid (chv_low HR.out.symm (x := (20, 1 + (ml : Int) % (h - 1), 42)) (by simp [Ac.ok, okA]; omega) (by rw [hh]; simp only []; omega))
              go_wp2
              have KB := Lib.hid (show Below w.heap.size w (w3.alloc (.cells #[.int .i64 20, .int .i64 (1 + (ml : Int) % (h - 1)), .int .i64 42] 24)) from B3.alloc B3.size _)
              have HC := Lib.hid (fun (W' : World) (hb : Below (w3.alloc (.cells #[.int .i64 20, .int .i64 (1 + (ml : Int) % (h - 1)), .int .i64 42] 24)).heap.size (w3.alloc (.cells #[.int .i64 20, .int .i64 (1 + (ml : Int) % (h - 1)), .int .i64 42] 24)) W') => cells3 ((AF3.new w3 20 (1 + (ml : Int) % (h - 1)) 42 24).below hb).ab)
              have HA := Lib.hid (fun (W' : World) (hb : Below (w3.alloc (.cells #[.int .i64 20, .int .i64 (1 + (ml : Int) % (h - 1)), .int .i64 42] 24)).heap.size (w3.alloc (.cells #[.int .i64 20, .int .i64 (1 + (ml : Int) % (h - 1)), .int .i64 42] 24)) W') => al_cells (((a3.below ((Below.refl _ w3).alloc (Nat.le_refl _) _)).below hb)))
              clear a3 B3
              generalize 1 + (ml : Int) % (h - 1) = y at *
              generalize hW5 : w3.alloc (.cells #[.int .i64 20, .int .i64 y, .int .i64 42] 24) = W5 at *
              generalize w3.heap.size = lb at *
              have z5 : W5.heap.size ≤ (W5.alloc (.cells #[] 24)).heap.size := by rw [World.size_alloc]; omega
              have K5E : Below W5.heap.size W5 (W5.alloc (.cells #[] 24)) := (Below.refl _ W5).alloc (Nat.le_refl _) _
              have E5 : OA (W5.alloc (.cells #[] 24)) W5.heap.size (some ⟨W5.heap.size, 0, none⟩) 0 [] := row3_made W5 _ (Nat.le_refl _)
              have K5ER : Below W5.heap.size W5 ((W5.alloc (.cells #[] 24)).alloc (.cells #[.int .i64 20, .int .i64 y, .int .i64 42] 24)) := K5E.alloc K5E.size _
              have z5ER : W5.heap.size ≤ ((W5.alloc (.cells #[] 24)).alloc (.cells #[.int .i64 20, .int .i64 y, .int .i64 42] 24)).heap.size := K5ER.size
              have K5R : Below W5.heap.size W5 (W5.alloc (.cells #[.int .i64 20, .int .i64 y, .int .i64 42] 24)) := (Below.refl _ W5).alloc (Nat.le_refl _) _
              have K5RE : Below W5.heap.size W5 ((W5.alloc (.cells #[.int .i64 20, .int .i64 y, .int .i64 42] 24)).alloc (.cells #[] 24)) := K5R.alloc K5R.size _
              have E5R : OA ((W5.alloc (.cells #[.int .i64 20, .int .i64 y, .int .i64 42] 24)).alloc (.cells #[] 24)) W5.heap.size (some ⟨W5.heap.size + 1, 0, none⟩) 0 [] := row3_made2 W5 _ (Nat.le_refl _) _
              obtain ⟨s0, s1, s2⟩ := HC.out _ (Below.refl _ W5)
              obtain ⟨t0, t1, t2⟩ := HC.out _ K5E
              have h63 : 0 + l.length ≤ maxLen := by unfold maxLen; omega
              have hby : (0 + l.length) * 24 ≤ 140737488355328 := by omega
              have h63d : l.length + 1 ≤ maxLen := by unfold maxLen; omega
              have hbyd : (l.length + 1) * 24 ≤ 140737488355328 := by omega
              go_region_law (first
                | (refine at_dst (d := 89) rfl ?_; refine at_t 91 undef rfl ?_; refine at_t 87 (.slice (some ⟨W5.heap.size, 0, none⟩) 0 0) rfl ?_; refine step_append_g _ (d := 89) rfl (by kernel_rfl) (.tmp 87) (.tmp 88) 35 (by rfl) W5.heap.size 24 i0 (AVal 0 0 0) 3 24 Try.underlying35 hi0 hz0 hz1 hz2 rfl (by decide) (.slice (some ⟨W5.heap.size, 0, none⟩) 0 0) 0 [] (by rfl) E5 ⟨g, 0, none⟩ l.length c1 (acs l) (by rfl) (acs_len l) (HA.out _ ⟨K5E.os, K5E.tape, K5E.output, K5E.size, K5E.block⟩) acs_one h63 hby z5 ?_; intro v7 w7 hown7 hg7; rw [Nat.zero_add, List.nil_append] at hown7; obtain ⟨A7, c7, rfl, o7⟩ := own_slice3 rfl hown7; have K7 : Below W5.heap.size W5 w7 := growB hg7 ⟨K5E.os, K5E.tape, K5E.output, K5E.size, K5E.block⟩ K5E.size (fun x hx => (by cases hx; exact Nat.le_refl _)); obtain ⟨p0, p1, p2⟩ := HC.out _ K7; have L7 : ∀ x, (Value.slice A7 l.length c7).ownBlock = some x → W5.heap.size ≤ x := fun x hx => (World.ownsRow.lt o7 x hx).1; have z7 : W5.heap.size ≤ w7.heap.size := K7.size)
                | (refine at_dst (d := 89) rfl ?_; refine at_t 91 (.slice (some ⟨W5.heap.size + 1, 0, none⟩) 1 1) rfl ?_; refine at_t 87 (.slice (some ⟨W5.heap.size, 0, none⟩) 0 0) rfl ?_; refine step_append_g _ (d := 89) rfl (by kernel_rfl) (.tmp 87) (.tmp 88) 35 (by rfl) W5.heap.size 24 i0 (AVal 0 0 0) 3 24 Try.underlying35 hi0 hz0 hz1 hz2 rfl (by decide) (.slice (some ⟨W5.heap.size, 0, none⟩) 0 0) 0 [] (by rfl) (World.ownsRow.alloc E5 (.cells #[.int .i64 20, .int .i64 y, .int .i64 42] 24)) ⟨g, 0, none⟩ l.length c1 (acs l) (by rfl) (acs_len l) (HA.out _ ⟨K5ER.os, K5ER.tape, K5ER.output, K5ER.size, K5ER.block⟩) acs_one h63 hby z5ER ?_; intro v7 w7 hown7 hg7; rw [Nat.zero_add, List.nil_append] at hown7; obtain ⟨A7, c7, rfl, o7⟩ := own_slice3 rfl hown7; have K7 : Below W5.heap.size W5 w7 := growB hg7 ⟨K5ER.os, K5ER.tape, K5ER.output, K5ER.size, K5ER.block⟩ K5ER.size (fun x hx => (by cases hx; exact Nat.le_refl _)); obtain ⟨p0, p1, p2⟩ := HC.out _ K7; have L7 : ∀ x, (Value.slice A7 l.length c7).ownBlock = some x → W5.heap.size ≤ x := fun x hx => (World.ownsRow.lt o7 x hx).1; have z7 : W5.heap.size ≤ w7.heap.size := K7.size; have n7 := three_kept hg7 (made3_second W5 (.cells #[] 24) 20 y 42) (by simp [Value.ownBlock]))
                | (refine at_dst (d := 89) rfl ?_; refine at_t 91 (.slice (some ⟨W5.heap.size, 0, none⟩) 1 1) rfl ?_; refine at_t 87 (.slice (some ⟨W5.heap.size + 1, 0, none⟩) 0 0) rfl ?_; refine step_append_g _ (d := 89) rfl (by kernel_rfl) (.tmp 87) (.tmp 88) 35 (by rfl) W5.heap.size 24 i0 (AVal 0 0 0) 3 24 Try.underlying35 hi0 hz0 hz1 hz2 rfl (by decide) (.slice (some ⟨W5.heap.size + 1, 0, none⟩) 0 0) 0 [] (by rfl) E5R ⟨g, 0, none⟩ l.length c1 (acs l) (by rfl) (acs_len l) (HA.out _ ⟨K5RE.os, K5RE.tape, K5RE.output, K5RE.size, K5RE.block⟩) acs_one h63 hby K5RE.size ?_; intro v7 w7 hown7 hg7; rw [Nat.zero_add, List.nil_append] at hown7; obtain ⟨A7, c7, rfl, o7⟩ := own_slice3 rfl hown7; have K7 : Below W5.heap.size W5 w7 := growB hg7 ⟨K5RE.os, K5RE.tape, K5RE.output, K5RE.size, K5RE.block⟩ K5RE.size (fun x hx => (by cases hx; exact Nat.le_succ _)); obtain ⟨p0, p1, p2⟩ := HC.out _ K7; have L7 : ∀ x, (Value.slice A7 l.length c7).ownBlock = some x → W5.heap.size ≤ x := fun x hx => (World.ownsRow.lt o7 x hx).1; have z7 : W5.heap.size ≤ w7.heap.size := K7.size; have n7 := three_kept hg7 (made3_first W5 (.cells #[] 24) 20 y 42) (by simp [Value.ownBlock]))
                | (refine at_dst (d := 92) rfl ?_; refine at_t 91 (.slice (some ⟨w7.heap.size, 0, none⟩) 1 1) rfl ?_; refine step_append_g _ (d := 92) rfl (by kernel_rfl) (.tmp 89) (.tmp 91) 35 (by rfl) W5.heap.size 24 i0 (AVal 0 0 0) 3 24 Try.underlying35 hi0 hz0 hz1 hz2 rfl (by decide) (.slice A7 l.length c7) l.length (acs l) (by rfl) (World.ownsRow.alloc o7 (.cells #[.int .i64 20, .int .i64 y, .int .i64 42] 24)) ⟨w7.heap.size, 0, none⟩ 1 1 [.int .i64 20, .int .i64 y, .int .i64 42] (by rfl) rfl (three_new (w := w7) (P := 20) (a := y) (v := 42) (T := 24)) (ints_oneCell .i64 [20, y, 42]) h63d hbyd (show W5.heap.size ≤ (w7.alloc (.cells #[.int .i64 20, .int .i64 y, .int .i64 42] 24)).heap.size from (K7.alloc K7.size (.cells #[.int .i64 20, .int .i64 y, .int .i64 42] 24)).size) ?_; intro v8 w8 hown8 hg8; rw [app3 l 20 y 42] at hown8; obtain ⟨A8, c8, rfl, o8⟩ := own_slice3 (by simp) hown8; have K8 : Below W5.heap.size W5 w8 := growB hg8 ⟨(K7.alloc K7.size (.cells #[.int .i64 20, .int .i64 y, .int .i64 42] 24)).os, (K7.alloc K7.size (.cells #[.int .i64 20, .int .i64 y, .int .i64 42] 24)).tape, (K7.alloc K7.size (.cells #[.int .i64 20, .int .i64 y, .int .i64 42] 24)).output, (K7.alloc K7.size (.cells #[.int .i64 20, .int .i64 y, .int .i64 42] 24)).size, (K7.alloc K7.size (.cells #[.int .i64 20, .int .i64 y, .int .i64 42] 24)).block⟩ (K7.alloc K7.size (.cells #[.int .i64 20, .int .i64 y, .int .i64 42] 24)).size L7; have a8 := OA.al o8)
                | (refine at_dst (d := 92) rfl ?_; refine at_t 91 (.slice (some ⟨W5.heap.size + 1, 0, none⟩) 1 1) rfl ?_; refine step_append_g _ (d := 92) rfl (by kernel_rfl) (.tmp 89) (.tmp 91) 35 (by rfl) W5.heap.size 24 i0 (AVal 0 0 0) 3 24 Try.underlying35 hi0 hz0 hz1 hz2 rfl (by decide) (.slice A7 l.length c7) l.length (acs l) (by rfl) o7 ⟨W5.heap.size + 1, 0, none⟩ 1 1 [.int .i64 20, .int .i64 y, .int .i64 42] (by rfl) rfl n7 (ints_oneCell .i64 [20, y, 42]) h63d hbyd z7 ?_; intro v8 w8 hown8 hg8; rw [app3 l 20 y 42] at hown8; obtain ⟨A8, c8, rfl, o8⟩ := own_slice3 (by simp) hown8; have K8 : Below W5.heap.size W5 w8 := growB hg8 ⟨K7.os, K7.tape, K7.output, K7.size, K7.block⟩ K7.size L7; have a8 := OA.al o8)
                | (refine at_dst (d := 92) rfl ?_; refine at_t 91 (.slice (some ⟨W5.heap.size, 0, none⟩) 1 1) rfl ?_; refine step_append_g _ (d := 92) rfl (by kernel_rfl) (.tmp 89) (.tmp 91) 35 (by rfl) W5.heap.size 24 i0 (AVal 0 0 0) 3 24 Try.underlying35 hi0 hz0 hz1 hz2 rfl (by decide) (.slice A7 l.length c7) l.length (acs l) (by rfl) o7 ⟨W5.heap.size, 0, none⟩ 1 1 [.int .i64 20, .int .i64 y, .int .i64 42] (by rfl) rfl n7 (ints_oneCell .i64 [20, y, 42]) h63d hbyd z7 ?_; intro v8 w8 hown8 hg8; rw [app3 l 20 y 42] at hown8; obtain ⟨A8, c8, rfl, o8⟩ := own_slice3 (by simp) hown8; have K8 : Below W5.heap.size W5 w8 := growB hg8 ⟨K7.os, K7.tape, K7.output, K7.size, K7.block⟩ K7.size L7; have a8 := OA.al o8)
                | (refine at_dst (d := 94) rfl ?_; go_simp; go_at_call 26; (with_reducible refine (ch_at _ _ _ _ own r _ a8 (by simp) HX.out (by simp; omega)).mono ?_); rintro e w9 ⟨rfl, b9⟩; have K9 : Below W5.heap.size W5 w9 := below_step K8 b9)
                | fail)
              all_goals (
                have KF := Lib.hid (KB.out.trans (K9.mono KB.out.size))
                have a9 := HA.out _ K9
                go_wp2_with (at_builtin; refine wpList_append_own _ rfl (.tmp 99) (.tmp 100) 35 rfl w9.heap.size 24 i0 (AVal 0 0 0) 3 24 Try.underlying35 hi0 hz0 hz1 hz2 rfl (by decide) _ _ _ rfl (row3_one w9 3 0 0) ⟨g, 0, none⟩ l.length c1 (acs l) rfl (acs_len l) (fun j u hu => (World.cell?_of_block (Below.heap_alloc w9 _ _ (World.block_lt_of_cell? w9 _ (a9 j u hu)))).trans (a9 j u hu)) acs_one (by unfold maxLen; omega) (by omega) (by simp) ?_)
                intro v10 w10 ho10 hg10 _
                have ho11 : w10.ownsRow w9.heap.size 24 3 v10 (1 + l.length) (acs (((3, 0, 0) : Ac) :: l)) := ho10
                obtain ⟨A10, c10, rfl, o10⟩ := own_slice3 (by simp; omega) ho11
                have KG := Lib.hid ((KF.out.alloc KF.out.size _).grown hg10 (KF.out.alloc KF.out.size _).size (fun k hk => by cases hk; exact KF.out.size))
                have a10 := OA.al o10
                clear ho10 hg10 ho11 o10 a9
                go_wp2_with fail
                refine (ch_at _ _ _ _ own r _ a10 (by simp) (chv_ahead HR.out.symm) (by simp; omega)).mono ?_
                rintro e w11 ⟨rfl, b11⟩
                have KH := Lib.hid (below_step KG.out b11)
                clear b11 a10
                go_wp2
                go_ret
                exact ⟨by simp, KH.out⟩)
            · have HX := Lib.hid (chv_low HR.out.symm (x := (20, 0, 0)) (by decide) (by rw [hh]; simp only []; omega))
              go_wp2
              have KB := Lib.hid (show Below w.heap.size w (w3.alloc (.cells #[.int .i64 20, .int .i64 0, .int .i64 0] 24)) from B3.alloc B3.size _)
              have HC := Lib.hid (fun (W' : World) (hb : Below (w3.alloc (.cells #[.int .i64 20, .int .i64 0, .int .i64 0] 24)).heap.size (w3.alloc (.cells #[.int .i64 20, .int .i64 0, .int .i64 0] 24)) W') => cells3 ((AF3.new w3 20 0 0 24).below hb).ab)
              have HA := Lib.hid (fun (W' : World) (hb : Below (w3.alloc (.cells #[.int .i64 20, .int .i64 0, .int .i64 0] 24)).heap.size (w3.alloc (.cells #[.int .i64 20, .int .i64 0, .int .i64 0] 24)) W') => al_cells (((a3.below ((Below.refl _ w3).alloc (Nat.le_refl _) _)).below hb)))
              clear a3 B3
              generalize hW5 : w3.alloc (.cells #[.int .i64 20, .int .i64 0, .int .i64 0] 24) = W5 at *
              generalize w3.heap.size = lb at *
              have z5 : W5.heap.size ≤ (W5.alloc (.cells #[] 24)).heap.size := by rw [World.size_alloc]; omega
              have K5E : Below W5.heap.size W5 (W5.alloc (.cells #[] 24)) := (Below.refl _ W5).alloc (Nat.le_refl _) _
              have E5 : OA (W5.alloc (.cells #[] 24)) W5.heap.size (some ⟨W5.heap.size, 0, none⟩) 0 [] := row3_made W5 _ (Nat.le_refl _)
              have K5ER : Below W5.heap.size W5 ((W5.alloc (.cells #[] 24)).alloc (.cells #[.int .i64 20, .int .i64 0, .int .i64 0] 24)) := K5E.alloc K5E.size _
              have z5ER : W5.heap.size ≤ ((W5.alloc (.cells #[] 24)).alloc (.cells #[.int .i64 20, .int .i64 0, .int .i64 0] 24)).heap.size := K5ER.size
              have K5R : Below W5.heap.size W5 (W5.alloc (.cells #[.int .i64 20, .int .i64 0, .int .i64 0] 24)) := (Below.refl _ W5).alloc (Nat.le_refl _) _
              have K5RE : Below W5.heap.size W5 ((W5.alloc (.cells #[.int .i64 20, .int .i64 0, .int .i64 0] 24)).alloc (.cells #[] 24)) := K5R.alloc K5R.size _
              have E5R : OA ((W5.alloc (.cells #[.int .i64 20, .int .i64 0, .int .i64 0] 24)).alloc (.cells #[] 24)) W5.heap.size (some ⟨W5.heap.size + 1, 0, none⟩) 0 [] := row3_made2 W5 _ (Nat.le_refl _) _
              obtain ⟨s0, s1, s2⟩ := HC.out _ (Below.refl _ W5)
              obtain ⟨t0, t1, t2⟩ := HC.out _ K5E
              have h63 : 0 + l.length ≤ maxLen := by unfold maxLen; omega
              have hby : (0 + l.length) * 24 ≤ 140737488355328 := by omega
              have h63d : l.length + 1 ≤ maxLen := by unfold maxLen; omega
              have hbyd : (l.length + 1) * 24 ≤ 140737488355328 := by omega
              go_region_law (first
                | (refine at_dst (d := 89) rfl ?_; refine at_t 91 undef rfl ?_; refine at_t 87 (.slice (some ⟨W5.heap.size, 0, none⟩) 0 0) rfl ?_; refine step_append_g _ (d := 89) rfl (by kernel_rfl) (.tmp 87) (.tmp 88) 35 (by rfl) W5.heap.size 24 i0 (AVal 0 0 0) 3 24 Try.underlying35 hi0 hz0 hz1 hz2 rfl (by decide) (.slice (some ⟨W5.heap.size, 0, none⟩) 0 0) 0 [] (by rfl) E5 ⟨g, 0, none⟩ l.length c1 (acs l) (by rfl) (acs_len l) (HA.out _ ⟨K5E.os, K5E.tape, K5E.output, K5E.size, K5E.block⟩) acs_one h63 hby z5 ?_; intro v7 w7 hown7 hg7; rw [Nat.zero_add, List.nil_append] at hown7; obtain ⟨A7, c7, rfl, o7⟩ := own_slice3 rfl hown7; have K7 : Below W5.heap.size W5 w7 := growB hg7 ⟨K5E.os, K5E.tape, K5E.output, K5E.size, K5E.block⟩ K5E.size (fun x hx => (by cases hx; exact Nat.le_refl _)); obtain ⟨p0, p1, p2⟩ := HC.out _ K7; have L7 : ∀ x, (Value.slice A7 l.length c7).ownBlock = some x → W5.heap.size ≤ x := fun x hx => (World.ownsRow.lt o7 x hx).1; have z7 : W5.heap.size ≤ w7.heap.size := K7.size)
                | (refine at_dst (d := 89) rfl ?_; refine at_t 91 (.slice (some ⟨W5.heap.size + 1, 0, none⟩) 1 1) rfl ?_; refine at_t 87 (.slice (some ⟨W5.heap.size, 0, none⟩) 0 0) rfl ?_; refine step_append_g _ (d := 89) rfl (by kernel_rfl) (.tmp 87) (.tmp 88) 35 (by rfl) W5.heap.size 24 i0 (AVal 0 0 0) 3 24 Try.underlying35 hi0 hz0 hz1 hz2 rfl (by decide) (.slice (some ⟨W5.heap.size, 0, none⟩) 0 0) 0 [] (by rfl) (World.ownsRow.alloc E5 (.cells #[.int .i64 20, .int .i64 0, .int .i64 0] 24)) ⟨g, 0, none⟩ l.length c1 (acs l) (by rfl) (acs_len l) (HA.out _ ⟨K5ER.os, K5ER.tape, K5ER.output, K5ER.size, K5ER.block⟩) acs_one h63 hby z5ER ?_; intro v7 w7 hown7 hg7; rw [Nat.zero_add, List.nil_append] at hown7; obtain ⟨A7, c7, rfl, o7⟩ := own_slice3 rfl hown7; have K7 : Below W5.heap.size W5 w7 := growB hg7 ⟨K5ER.os, K5ER.tape, K5ER.output, K5ER.size, K5ER.block⟩ K5ER.size (fun x hx => (by cases hx; exact Nat.le_refl _)); obtain ⟨p0, p1, p2⟩ := HC.out _ K7; have L7 : ∀ x, (Value.slice A7 l.length c7).ownBlock = some x → W5.heap.size ≤ x := fun x hx => (World.ownsRow.lt o7 x hx).1; have z7 : W5.heap.size ≤ w7.heap.size := K7.size; have n7 := three_kept hg7 (made3_second W5 (.cells #[] 24) 20 0 0) (by simp [Value.ownBlock]))
                | (refine at_dst (d := 89) rfl ?_; refine at_t 91 (.slice (some ⟨W5.heap.size, 0, none⟩) 1 1) rfl ?_; refine at_t 87 (.slice (some ⟨W5.heap.size + 1, 0, none⟩) 0 0) rfl ?_; refine step_append_g _ (d := 89) rfl (by kernel_rfl) (.tmp 87) (.tmp 88) 35 (by rfl) W5.heap.size 24 i0 (AVal 0 0 0) 3 24 Try.underlying35 hi0 hz0 hz1 hz2 rfl (by decide) (.slice (some ⟨W5.heap.size + 1, 0, none⟩) 0 0) 0 [] (by rfl) E5R ⟨g, 0, none⟩ l.length c1 (acs l) (by rfl) (acs_len l) (HA.out _ ⟨K5RE.os, K5RE.tape, K5RE.output, K5RE.size, K5RE.block⟩) acs_one h63 hby K5RE.size ?_; intro v7 w7 hown7 hg7; rw [Nat.zero_add, List.nil_append] at hown7; obtain ⟨A7, c7, rfl, o7⟩ := own_slice3 rfl hown7; have K7 : Below W5.heap.size W5 w7 := growB hg7 ⟨K5RE.os, K5RE.tape, K5RE.output, K5RE.size, K5RE.block⟩ K5RE.size (fun x hx => (by cases hx; exact Nat.le_succ _)); obtain ⟨p0, p1, p2⟩ := HC.out _ K7; have L7 : ∀ x, (Value.slice A7 l.length c7).ownBlock = some x → W5.heap.size ≤ x := fun x hx => (World.ownsRow.lt o7 x hx).1; have z7 : W5.heap.size ≤ w7.heap.size := K7.size; have n7 := three_kept hg7 (made3_first W5 (.cells #[] 24) 20 0 0) (by simp [Value.ownBlock]))
                | (refine at_dst (d := 92) rfl ?_; refine at_t 91 (.slice (some ⟨w7.heap.size, 0, none⟩) 1 1) rfl ?_; refine step_append_g _ (d := 92) rfl (by kernel_rfl) (.tmp 89) (.tmp 91) 35 (by rfl) W5.heap.size 24 i0 (AVal 0 0 0) 3 24 Try.underlying35 hi0 hz0 hz1 hz2 rfl (by decide) (.slice A7 l.length c7) l.length (acs l) (by rfl) (World.ownsRow.alloc o7 (.cells #[.int .i64 20, .int .i64 0, .int .i64 0] 24)) ⟨w7.heap.size, 0, none⟩ 1 1 [.int .i64 20, .int .i64 0, .int .i64 0] (by rfl) rfl (three_new (w := w7) (P := 20) (a := 0) (v := 0) (T := 24)) (ints_oneCell .i64 [20, 0, 0]) h63d hbyd (show W5.heap.size ≤ (w7.alloc (.cells #[.int .i64 20, .int .i64 0, .int .i64 0] 24)).heap.size from (K7.alloc K7.size (.cells #[.int .i64 20, .int .i64 0, .int .i64 0] 24)).size) ?_; intro v8 w8 hown8 hg8; rw [app3 l 20 0 0] at hown8; obtain ⟨A8, c8, rfl, o8⟩ := own_slice3 (by simp) hown8; have K8 : Below W5.heap.size W5 w8 := growB hg8 ⟨(K7.alloc K7.size (.cells #[.int .i64 20, .int .i64 0, .int .i64 0] 24)).os, (K7.alloc K7.size (.cells #[.int .i64 20, .int .i64 0, .int .i64 0] 24)).tape, (K7.alloc K7.size (.cells #[.int .i64 20, .int .i64 0, .int .i64 0] 24)).output, (K7.alloc K7.size (.cells #[.int .i64 20, .int .i64 0, .int .i64 0] 24)).size, (K7.alloc K7.size (.cells #[.int .i64 20, .int .i64 0, .int .i64 0] 24)).block⟩ (K7.alloc K7.size (.cells #[.int .i64 20, .int .i64 0, .int .i64 0] 24)).size L7; have a8 := OA.al o8)
                | (refine at_dst (d := 92) rfl ?_; refine at_t 91 (.slice (some ⟨W5.heap.size + 1, 0, none⟩) 1 1) rfl ?_; refine step_append_g _ (d := 92) rfl (by kernel_rfl) (.tmp 89) (.tmp 91) 35 (by rfl) W5.heap.size 24 i0 (AVal 0 0 0) 3 24 Try.underlying35 hi0 hz0 hz1 hz2 rfl (by decide) (.slice A7 l.length c7) l.length (acs l) (by rfl) o7 ⟨W5.heap.size + 1, 0, none⟩ 1 1 [.int .i64 20, .int .i64 0, .int .i64 0] (by rfl) rfl n7 (ints_oneCell .i64 [20, 0, 0]) h63d hbyd z7 ?_; intro v8 w8 hown8 hg8; rw [app3 l 20 0 0] at hown8; obtain ⟨A8, c8, rfl, o8⟩ := own_slice3 (by simp) hown8; have K8 : Below W5.heap.size W5 w8 := growB hg8 ⟨K7.os, K7.tape, K7.output, K7.size, K7.block⟩ K7.size L7; have a8 := OA.al o8)
                | (refine at_dst (d := 92) rfl ?_; refine at_t 91 (.slice (some ⟨W5.heap.size, 0, none⟩) 1 1) rfl ?_; refine step_append_g _ (d := 92) rfl (by kernel_rfl) (.tmp 89) (.tmp 91) 35 (by rfl) W5.heap.size 24 i0 (AVal 0 0 0) 3 24 Try.underlying35 hi0 hz0 hz1 hz2 rfl (by decide) (.slice A7 l.length c7) l.length (acs l) (by rfl) o7 ⟨W5.heap.size, 0, none⟩ 1 1 [.int .i64 20, .int .i64 0, .int .i64 0] (by rfl) rfl n7 (ints_oneCell .i64 [20, 0, 0]) h63d hbyd z7 ?_; intro v8 w8 hown8 hg8; rw [app3 l 20 0 0] at hown8; obtain ⟨A8, c8, rfl, o8⟩ := own_slice3 (by simp) hown8; have K8 : Below W5.heap.size W5 w8 := growB hg8 ⟨K7.os, K7.tape, K7.output, K7.size, K7.block⟩ K7.size L7; have a8 := OA.al o8)
                | (refine at_dst (d := 94) rfl ?_; go_simp; go_at_call 26; (with_reducible refine (ch_at _ _ _ _ own r _ a8 (by simp) HX.out (by simp; omega)).mono ?_); rintro e w9 ⟨rfl, b9⟩; have K9 : Below W5.heap.size W5 w9 := below_step K8 b9)
                | fail)
              all_goals (
                have KF := Lib.hid (KB.out.trans (K9.mono KB.out.size))
                have a9 := HA.out _ K9
                go_wp2_with (at_builtin; refine wpList_append_own _ rfl (.tmp 99) (.tmp 100) 35 rfl w9.heap.size 24 i0 (AVal 0 0 0) 3 24 Try.underlying35 hi0 hz0 hz1 hz2 rfl (by decide) _ _ _ rfl (row3_one w9 3 0 0) ⟨g, 0, none⟩ l.length c1 (acs l) rfl (acs_len l) (fun j u hu => (World.cell?_of_block (Below.heap_alloc w9 _ _ (World.block_lt_of_cell? w9 _ (a9 j u hu)))).trans (a9 j u hu)) acs_one (by unfold maxLen; omega) (by omega) (by simp) ?_)
                intro v10 w10 ho10 hg10 _
                have ho11 : w10.ownsRow w9.heap.size 24 3 v10 (1 + l.length) (acs (((3, 0, 0) : Ac) :: l)) := ho10
                obtain ⟨A10, c10, rfl, o10⟩ := own_slice3 (by simp; omega) ho11
                have KG := Lib.hid ((KF.out.alloc KF.out.size _).grown hg10 (KF.out.alloc KF.out.size _).size (fun k hk => by cases hk; exact KF.out.size))
                have a10 := OA.al o10
                clear ho10 hg10 ho11 o10 a9
                go_wp2_with fail
                refine (ch_at _ _ _ _ own r _ a10 (by simp) (chv_ahead HR.out.symm) (by simp; omega)).mono ?_
                rintro e w11 ⟨rfl, b11⟩
                have KH := Lib.hid (below_step KG.out b11)
                clear b11 a10
                go_wp2
                go_ret
                exact ⟨by simp, KH.out⟩)
    · go_enter Try.func8, Try.ntmps8
      go_wp2
      go_ret
      exact ⟨rfl, Below.refl _ w⟩
  · go_enter Try.func8, Try.ntmps8
    go_wp2
    go_ret
    exact ⟨rfl, Below.refl _ w⟩
end Go.Proofs.Ytndgmglelogegaa
