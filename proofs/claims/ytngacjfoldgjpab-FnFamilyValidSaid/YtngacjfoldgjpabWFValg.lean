/- The walk of the law that no quorum contains another. -/
import Derived.Test.YtngacjfoldgjpabWFVal0g
import Derived.Test.YtngacjfoldgjpabGd
import Derived.Deep.RegionLaw
import Derived.Test.YtngacjfoldgjpabCutg
namespace Go.Proofs.Ytngacjfoldgjpab
open Go.RowKit

/-- The cells of rows of the call's own. -/
theorem oss_cells {w : World} {lo hi g c : Nat} {F : List (List Int)} (h : OSS w lo hi (some ⟨g, 0, none⟩) c F) : ∃ rs : List Value, rs.length = F.length ∧ F.length ≤ c ∧ (∀ (j : Nat) u, rs[j]? = some u → w.cell? ⟨g, j, none⟩ = some u) ∧ (∀ u ∈ rs, u.oneCell' = true) ∧ ∀ (j : Nat) l, F[j]? = some l → ∃ B d, rs[j]? = some (.slice B l.length d) ∧ IL w B l := by
  have hi := h.iss
  obtain ⟨rs0, ho, _⟩ := h
  obtain ⟨rs, h1, h2, h3, h4⟩ := hi.cells
  refine ⟨rs, h1, ?_, fun j u hu => ?_, h3, h4⟩
  · rcases ho.2 with ⟨hv, _⟩ | ⟨g', cap, cur, hv, _, _, hnc, _⟩
    · cases hv
    · injection hv with _ _ hcc
      omega
  · have := h2 j u hu
    rwa [Addr.add_lit, Nat.zero_add] at this
theorem cells_off {w : World} {g q : Nat} {rs ws : List Value} (h : ∀ (j : Nat) u, rs[j]? = some u → w.cell? ⟨g, j, none⟩ = some u) (hw : ∀ (j : Nat) u, ws[j]? = some u → rs[q + j]? = some u) : ∀ (j : Nat) u, ws[j]? = some u → w.cell? ((⟨g, q, none⟩ : Addr).add j) = some u := by
  intro j u hu
  rw [Addr.add_lit]
  exact h _ _ (hw j u hu)

theorem row_made (w : World) (base : Nat) (h : base ≤ w.heap.size) : (w.alloc (.cells #[] 26)).ownsRow base 26 1 (.slice (some ⟨w.heap.size, 0, none⟩) 0 0) 0 [] := World.ownsRow_made w #[] 0 h (by unfold maxLen; omega) (by simp)
theorem row_keep {w w' : World} {base n : Nat} {v : Value} {xs : List Value} (h : w.ownsRow base 26 1 v n xs) (hb : Below w.heap.size w w') : w'.ownsRow base 26 1 v n xs := own_at h fun g hg => hb.block g (h.lt g hg).2
/-- The one cell of a row stands while other rows grow. -/
theorem one_cell {W W' : World} {row : Option Nat} {b : Nat} {x : Value} (hW : W.heap[b]? = some (.cells #[x] 26 (0, 0))) (hg : W.grownBy W' row) (hne : some b ≠ row) : ∀ (j : Nat) u, [x][j]? = some u → W'.cell? ((⟨b, 0, none⟩ : Addr).add j) = some u := by
  have hb : b < W.heap.size := (Array.getElem?_eq_some_iff.1 hW).1
  have h1 : W'.heap[b]? = some (.cells #[x] 26 (0, 0)) := (hg.block b hb hne).trans hW
  intro j u hu
  cases j with
  | zero =>
    simp at hu
    subst hu
    rw [Addr.add_lit, cell_of_row _ b 0 _ _ (0, 0) h1]
    rfl
  | succ j => simp at hu
theorem made_second (w : World) (o : Obj) (x : Value) : ((w.alloc o).alloc (.cells #[x] 26)).heap[w.heap.size + 1]? = some (.cells #[x] 26 (0, 0)) := by
  have := heap_alloc_new (w.alloc o) (.cells #[x] 26)
  rwa [World.size_alloc] at this
theorem made_first (w : World) (o : Obj) (x : Value) : ((w.alloc (.cells #[x] 26)).alloc o).heap[w.heap.size]? = some (.cells #[x] 26 (0, 0)) :=
  (Below.heap_alloc (w.alloc (.cells #[x] 26)) o w.heap.size (by rw [World.size_alloc]; omega)).trans (heap_alloc_new w _)
theorem made_row2 (w : World) (base : Nat) (h : base ≤ w.heap.size) (o : Obj) : ((w.alloc o).alloc (.cells #[] 26)).ownsRow base 26 1 (.slice (some ⟨w.heap.size + 1, 0, none⟩) 0 0) 0 [] := by
  have := row_made (w.alloc o) base (by rw [World.size_alloc]; omega)
  rwa [World.size_alloc] at this
/-- A row of numbers stands while a row of slices grows. -/
theorem om_grow {W W' : World} {lo base n m : Nat} {v x : Value} {xs : List Value} {l : List Int} (hom : W.ownsRow lo 3 1 x m (l.map (Value.int .i64))) (ho : W.ownsRow base 26 1 v n xs) (hg : W.grownBy W' v.ownBlock) : W'.ownsRow lo 3 1 x m (l.map (Value.int .i64)) := by
  refine own_at hom fun g hx => ?_
  refine hg.block g (hom.lt g hx).2 fun e => ?_
  obtain ⟨c1, h1⟩ := own_cells hom g hx
  obtain ⟨c2, h2⟩ := own_cells ho g e.symm
  rw [h1] at h2
  injection h2 with h2
  injection h2 with _ h2
  exact ne_types h2.symm
theorem made_one (w : World) (x : Value) : (w.alloc (.cells #[x] 26)).heap[w.heap.size]? = some (.cells #[x] 26 (0, 0)) := heap_alloc_new w _
/-- A family and one set more. -/
theorem iss_more {w w' : World} {base n c : Nat} {A B : Option Addr} {d : Nat} {F : List (List Int)} {p : List Int} {rs : List Value} (ho : w'.ownsRow base 26 1 (.slice A n c) n (rs ++ [.slice B p.length d])) (hn : n = F.length + 1) (hr : rs.length = F.length)
    (h5 : ∀ (j : Nat) l, F[j]? = some l → ∃ B d, rs[j]? = some (.slice B l.length d) ∧ IL w B l) (hb : Below w.heap.size w w') (hp : IL w' B p) : ISS w' A (F ++ [p]) := by
  refine iss_own ho (by rw [hn]; simp) fun j l hl => ?_
  rcases Nat.lt_or_ge j F.length with hj | hj
  · rw [List.getElem?_append_left hj] at hl
    obtain ⟨B', d', h1, h2⟩ := h5 j l hl
    exact ⟨B', d', by rw [List.getElem?_append_left (by omega)]; exact h1, h2.below hb⟩
  · rw [List.getElem?_append_right hj] at hl
    have h0 : j - F.length = 0 := by
      have := (List.getElem?_eq_some_iff.1 hl).1
      simp at this
      omega
    rw [h0] at hl
    simp at hl
    subst hl
    exact ⟨B, d, by rw [List.getElem?_append_right (by omega), hr, h0]; rfl, hp⟩
theorem fam_no (A : Option Addr) (c n : Nat) (F : List (List Int)) (p : List Int) (W : World) (hi : ISS W A (F ++ [p])) (hn : n = F.length + 1) (h0 : famOk (F ++ [p]) = false) (hl : F.length ≤ 66) (hs : Short F 1048576) (hp : p.length ≤ 1048576) :
    Calls Try.prog 5 #[.slice A n c] W fun e w' => e = .returned (.bool false) ∧ Below W.heap.size W w' := by
  have := implFam_any A c (F ++ [p]) W hi (by simp; omega) (fun x hx => (List.mem_append.1 hx).elim (hs x) fun h => by simp at h; subst h; exact hp)
  rw [h0, List.length_append, List.length_singleton, ← hn] at this
  exact this

/-- The step at hand is the one that fills slot d: asked first, so that the wrong arm falls at once. -/
theorem at_dst {P : Program} {w : World} {ops : Array Oper} {o : Oper} {a : Act} {K : Act → World → Prop} {Q : Exit → Act → World → Prop} {E : Prop} {d : Nat} (_ : o.dst = some d) (h : if Region.wanted o (yielded ops a.tmps) = true then Oper.wp P o a w K Q else E) :
    if Region.wanted o (yielded ops a.tmps) = true then Oper.wp P o a w K Q else E := h
/-- Slot i holds v. -/
theorem at_t {P : Program} {w : World} {ops : Array Oper} {o : Oper} {a : Act} {K : Act → World → Prop} {Q : Exit → Act → World → Prop} {E : Prop} (i : Nat) (v : Value) (_ : a.tmps[i]? = some v) (h : if Region.wanted o (yielded ops a.tmps) = true then Oper.wp P o a w K Q else E) :
    if Region.wanted o (yielded ops a.tmps) = true then Oper.wp P o a w K Q else E := h
/-- An append at a step of a region that draws its order, the step's guard being met. -/
theorem step_append_g {P : Program} (w : World) {ops : Array Oper} {o : Oper} {a : Act} {K : Act → World → Prop} {Q : Exit → Act → World → Prop} {E : Prop} {d : Nat} (_ : o.dst = some d) (hgd : Region.wanted o (yielded ops a.tmps) = true) (s x : Operand) (t : TypeId)
    (ho : o.op = .call { callee := .builtin .append, args := #[s, x], argTypes := #[t, t] })
    (base : Nat) (e : TypeId) (i : TypeInfo) (z : Value) (size bytes : Nat) (ht : P.underlying t = some (.slice e)) (hi : P.info? e = some i) (hz : i.zero = some z)
    (hsize : i.size = size) (hby : i.bytes = bytes) (hzs : z.cells.size = size) (hsz : 0 < size)
    (v : Value) (n : Nat) (xs : List Value) (hs : a.eval s = v) (hown : w.ownsRow base e size v n xs)
    (ad : Addr) (m c : Nat) (news : List Value) (hx : a.eval x = .slice (some ad) m c) (hl : news.length = m * size) (hnews : ∀ j u, news[j]? = some u → w.cell? (ad.add j) = some u) (h1 : ∀ u ∈ news, u.oneCell' = true)
    (h63 : n + m ≤ maxLen) (hbytes : (n + m) * bytes ≤ 140737488355328) (hbase : base ≤ w.heap.size)
    (h : ∀ v' w', w'.ownsRow base e size v' (n + m) (xs ++ news) → w.grownBy w' v.ownBlock → K (a.put o.dst v') w') :
    if Region.wanted o (yielded ops a.tmps) = true then Oper.wp P o a w K Q else E := by
  rw [if_pos hgd]
  exact wp_append_own w s x t ho base e i z size bytes ht hi hz hsize hby hzs hsz v n xs hs hown ad m c news hx hl hnews h1 h63 hbytes hbase fun v' w' h2 h3 _ => h v' w' h2 h3

set_option maxRecDepth 100000 in
set_option maxHeartbeats 20000000 in
theorem walkFVal (A B : Option Addr) (c d : Nat) (l m : List Int) (w : World) (ha : BL w A l) (hc : l.length ≤ c) (hmc : c ≤ maxLen) (hd : m.length ≤ d) (hmd : d ≤ maxLen) :
    Calls Try.prog 3 #[.slice A l.length c, .slice B m.length d] w fun e w' => e = .returned (.bool true) ∧ Below w.heap.size w w' := by
  obtain ⟨i0, hi0, hz0, hz1, hz2⟩ := info_parts slice_info
  have hm := Nat.le_trans hc hmc
  have hmm := Nat.le_trans hd hmd
  have hm1 := hm
  have hm2 := hmm
  unfold maxLen at hm1 hm2
  by_cases hl : l.length ≤ 1048576
  · by_cases hl2 : m.length ≤ 1048576
    · obtain ⟨ml, hml⟩ : ∃ ml, ml = m.length := ⟨_, rfl⟩
      rw [← hml] at hl2 hm2 ⊢
      clear hml hmm hd hmd
      go_enter Try.func3, Try.ntmps3
      go_wp2_with fail
      refine (drawFV_any _ _ _ _ ha hc hm hmc).mono ?_
      rintro e w1 ⟨F, A1, c1, lo, hi, hF, hS, rfl, o1, B1⟩
      clear ha hm hc hmc
      have hFl : F.length ≤ 1048576 := by omega
      have hFs : Short F 1048576 := fun x hx => Nat.le_trans (hS x hx) (by omega)
      go_wp2_with fail
      refine (implFam_any _ _ _ _ o1.iss hFl hFs).mono ?_
      rintro e w2 ⟨rfl, b2⟩
      have o2 := o1.below b2
      have B2 := below_step B1 b2
      clear o1 B1 b2
      go_wp2_with fail
      refine (specFam_any _ _ _ _ o2.iss hFl hFs).mono ?_
      rintro e w3 ⟨rfl, d3⟩
      have o3 := o2.below d3.below
      have B3 := below_step B2 d3.below
      clear o2 B2 d3
      generalize hok : famOk F = ok at *
      cases ok
      · have HB := Lib.hid hok
        clear hok
        go_wp2_with fail
        refine (specFam_any _ _ _ _ o3.iss hFl hFs).mono ?_
        rw [HB.out]
        rintro e w4 ⟨rfl, d4⟩
        have B4 := below_step B3 d4.below
        clear B3 d4 o3
        go_wp2
        go_ret
        exact ⟨rfl, B4⟩
      · by_cases h0 : F.length = 0
        · have HB := Lib.hid hok
          have h0b : ((F.length : Int) == 0) = true := by simp [h0]
          clear hok h0
          go_wp2_with fail
          refine (specFam_any _ _ _ _ o3.iss hFl hFs).mono ?_
          rw [HB.out]
          rintro e w4 ⟨rfl, d4⟩
          have B4 := below_step B3 d4.below
          clear B3 d4 o3
          go_wp2
          go_ret
          exact ⟨rfl, B4⟩
        · have h0b : ((F.length : Int) == 0) = false := beq_eq_false_iff_ne.2 (by omega)
          have hn1 : 0 < F.length := by omega
          have h20 := famOk_len hok
          obtain ⟨k, hk⟩ : ∃ k, k = ml % F.length := ⟨_, rfl⟩
          have hkl : k < F.length := by rw [hk]; exact Nat.mod_lt _ hn1
          have hk1 : Int.tmod (ml : Int) (F.length : Int) = (k : Int) := by rw [Int.tmod_eq_emod_of_nonneg (by omega), hk]; rfl
          have hk2 : (ml : Int) % (F.length : Int) = (k : Int) := by rw [hk]; rfl
          have hv0 : ¬ ((F.length : Int) = 0) := by omega
          clear hk h0
          obtain ⟨g, rfl, hg1, hg2⟩ : ∃ g, A1 = some ⟨g, 0, none⟩ ∧ lo ≤ g ∧ g < w3.heap.size := by
            obtain ⟨rs0, ho, _⟩ := o3
            exact own_form ho hn1
          obtain ⟨rs, r1, r2, r3, r4, r5⟩ := oss_cells o3
          have hq0 : (0 : Int) ≤ (k : Int) := by omega
          have hq1 : (k : Int) ≤ (c1 : Int) := by omega
          have hq2 : (0 : Int) ≤ (k : Int) + 1 := by omega
          have hq3 : (k : Int) + 1 ≤ (F.length : Int) := by omega
          have hq4 : (k : Int) + 1 ≤ (c1 : Int) := by omega
          have hqw : IntKind.i64.wrap ((k : Int) + 1) = (k : Int) + 1 := by rw [IntKind.wrap_i64]; omega
          have hqn : ((k : Int) + 1).toNat = k + 1 := by omega
          obtain ⟨ad, had, had2⟩ : ∃ ad : Addr, (if c1 = k + 1 then some (⟨g, 0, none⟩ : Addr) else some ⟨g, k + 1, none⟩) = some ad ∧ (ad = ⟨g, k + 1, none⟩ ∨ rs.drop (k + 1) = []) := by
            by_cases h : c1 = k + 1
            · exact ⟨⟨g, 0, none⟩, by simp [h], .inr (List.drop_of_length_le (by omega))⟩
            · exact ⟨⟨g, k + 1, none⟩, by simp [h], .inl rfl⟩
          have E0 : (w3.alloc (.cells #[] 26)).ownsRow w3.heap.size 26 1 (.slice (some ⟨w3.heap.size, 0, none⟩) 0 0) 0 [] := World.ownsRow_made w3 #[] 0 (Nat.le_refl _) (by unfold maxLen; omega) (by simp)
          have L1 : (rs.take k).length = k * 1 := by simp; omega
          have N1 : ∀ (j : Nat) u, (rs.take k)[j]? = some u → (w3.alloc (.cells #[] 26)).cell? ((⟨g, 0, none⟩ : Addr).add j) = some u :=
            cells_off (rs := rs) (fun j u hu => (World.cell?_of_block (w := w3) (Below.heap_alloc w3 _ g hg2)).trans (r3 j u hu)) fun j u hu => by
              rw [Nat.zero_add]
              have hj : j < k := by have := (List.getElem?_eq_some_iff.1 hu).1; simp at this; omega
              rwa [List.getElem?_take_of_lt hj] at hu
          have L2 : (rs.drop (k + 1)).length = (F.length - (k + 1)) * 1 := by simp [r1]
          have N2 : ∀ W1 : World, (w3.alloc (.cells #[] 26)).drew.grownBy W1 (Value.slice (some ⟨w3.heap.size, 0, none⟩) 0 0).ownBlock → ∀ (j : Nat) u, (rs.drop (k + 1))[j]? = some u → W1.cell? (ad.add j) = some u := by
            intro W1 hW
            rcases had2 with rfl | h0
            · refine cells_off (rs := rs) (fun j u hu => ?_) fun j u hu => by rwa [List.getElem?_drop] at hu
              have e1 : W1.heap[g]? = w3.heap[g]? := (hW.block g (by simp; omega) (by simp [Value.ownBlock]; omega)).trans (Below.heap_alloc w3 _ g hg2)
              exact (World.cell?_of_block (w := w3) e1).trans (r3 j u hu)
            · rw [h0]
              intro j u hu
              simp at hu
          have HN1 := Lib.hid N1
          have HN2 := Lib.hid N2
          have oA : ∀ u ∈ rs.take k, u.oneCell' = true := fun u hu => r4 u (List.mem_of_mem_take hu)
          have oB : ∀ u ∈ rs.drop (k + 1), u.oneCell' = true := fun u hu => r4 u (List.mem_of_mem_drop hu)
          have HOA := Lib.hid oA
          have HOB := Lib.hid oB
          have h63a : 0 + k ≤ maxLen := by unfold maxLen; omega
          have hbya : (0 + k) * 24 ≤ 140737488355328 := by omega
          have h63b : k + (F.length - (k + 1)) ≤ maxLen := by unfold maxLen; omega
          have hbyb : (k + (F.length - (k + 1))) * 24 ≤ 140737488355328 := by omega
          have hsz0 : w3.heap.size ≤ (w3.alloc (.cells #[] 26)).drew.heap.size := by simp
          have HR := Lib.hid (And.intro r3 (And.intro r4 r5))
          have HOK := Lib.hid hok
          have HO3 := Lib.hid o3
          clear N1 N2 had2 oA oB r3 r4 r5 hok o3
          go_wp2
          go_region_law (first
            | (refine step_append_own _ (by rfl) (.tmp 43) (.tmp 46) 23 (by rfl) w3.heap.size 26 i0 (.slice none 0 0) 1 24 Try.underlying23 hi0 hz0 hz1 hz2 rfl (by decide) (.slice (some ⟨w3.heap.size, 0, none⟩) 0 0) 0 [] (by rfl) E0 ⟨g, 0, none⟩ k c1 (rs.take k) (by rfl) L1 HN1.out HOA.out h63a hbya hsz0 ?_; intro v1 w4 hown4 hgrow4; rw [Nat.zero_add, List.nil_append] at hown4; obtain ⟨A4, c4, rfl⟩ := own_slice hown4)
            | (refine step_append_own _ (by rfl) (.tmp 47) (.tmp 51) 23 (by rfl) w3.heap.size 26 i0 (.slice none 0 0) 1 24 Try.underlying23 hi0 hz0 hz1 hz2 rfl (by decide) (.slice A4 k c4) k (rs.take k) (by rfl) hown4 ad (F.length - (k + 1)) (c1 - (k + 1)) (rs.drop (k + 1)) (by rfl) L2 (HN2.out _ hgrow4) HOB.out h63b hbyb (Nat.le_trans hsz0 hgrow4.size) ?_; intro v2 w5 hown5 hgrow5)
            | fail)
          obtain ⟨U, hU⟩ : ∃ U, U = F.take k ++ F.drop (k + 1) := ⟨_, rfl⟩
          have hUl : U.length = k + (F.length - (k + 1)) := by rw [hU]; simp; omega
          have hb5 : Below w3.heap.size w3 w5 := by
            have h1 : Below w3.heap.size w3 (w3.alloc (.cells #[] 26)) := (Below.refl _ w3).alloc (Nat.le_refl _) _
            have h2 : Below w3.heap.size w3 w4 := (h1.drew).grown hgrow4 (by simp) (fun x hx => by cases hx; exact Nat.le_refl _)
            exact h2.grown hgrow5 h2.size (fun x hx => (hown4.lt x hx).1)
          rw [← hUl] at hown5
          obtain ⟨A5, c5, rfl⟩ := own_slice hown5
          have u5 : ISS w5 A5 U := by
            refine iss_own hown5 rfl fun j l hl => ?_
            have key : ∀ (i : Nat), F[i]? = some l → ∃ B d, rs[i]? = some (.slice B l.length d) ∧ IL w5 B l := fun i hi => by
              obtain ⟨B, d, h1, h2⟩ := HR.out.2.2 i l hi
              exact ⟨B, d, h1, h2.below hb5⟩
            rw [hU] at hl
            rcases Nat.lt_or_ge j k with hj | hj
            · rw [List.getElem?_append_left (by simp; omega), List.getElem?_take_of_lt hj] at hl
              obtain ⟨B, d, h1, h2⟩ := key j hl
              exact ⟨B, d, by rw [List.getElem?_append_left (by simp; omega), List.getElem?_take_of_lt hj]; exact h1, h2⟩
            · rw [List.getElem?_append_right (by simp; omega), List.getElem?_drop] at hl
              have e1 : (F.take k).length = k := by simp; omega
              have e2 : (rs.take k).length = k := by simp; omega
              rw [e1] at hl
              obtain ⟨B, d, h1, h2⟩ := key _ hl
              exact ⟨B, d, by rw [List.getElem?_append_right (by rw [e2]; exact hj), List.getElem?_drop, e2]; exact h1, h2⟩
          have hUs : Short U 1048576 := fun x hx => hFs x (by rw [hU] at hx; exact (List.mem_append.1 hx).elim List.mem_of_mem_take List.mem_of_mem_drop)
          have HU := Lib.hid (show famOk U = true by rw [hU]; exact fam_less HOK.out k)
          have o5 := HO3.out.below hb5
          have B5 := below_step B3 hb5
          have hUl2 : U.length ≤ 1048576 := by omega
          clear hown4 hown5 hgrow4 hgrow5 HN1 HN2 L1 L2 E0 HOA HOB had hqw hqn hb5 hU B3 HO3 HR hUl
          obtain ⟨rs, r1, r2, r3, r4, r5⟩ := oss_cells o5
          have hg5 : g < w5.heap.size := by
            obtain ⟨rs0, ho, _⟩ := o5
            obtain ⟨g', e, _, h⟩ := own_form ho hn1
            injection e with e
            injection e with e
            omega
          obtain ⟨p, hp⟩ : ∃ p, F[k]? = some p := ⟨_, List.getElem?_eq_getElem hkl⟩
          obtain ⟨Bp, dp, hrp, hip⟩ := r5 k p hp
          have hki : (k : Int) < (F.length : Int) := by omega
          have LF : rs.length = F.length * 1 := by omega
          have h63c : 0 + F.length ≤ maxLen := by unfold maxLen; omega
          have hbyc : (0 + F.length) * 24 ≤ 140737488355328 := by omega
          have CW := Lib.hid (fun (W : World) (hW : Below w5.heap.size w5 W) => show W.cell? ⟨g, k, none⟩ = some (.slice Bp p.length dp) from (hW.cell (p := ⟨g, k, none⟩) hg5).trans (r3 _ _ hrp))
          have NW := Lib.hid (fun (W : World) (hW : Below w5.heap.size w5 W) => show ∀ (j : Nat) u, rs[j]? = some u → W.cell? ((⟨g, 0, none⟩ : Addr).add j) = some u from cells_off (rs := rs) (fun j u hu => (hW.cell (p := ⟨g, j, none⟩) hg5).trans (r3 j u hu)) fun j u hu => by rwa [Nat.zero_add])
          have HR4 := Lib.hid r4
          have FV1 := Lib.hid (fun (W : World) (hW : Below w5.heap.size w5 W) => implFam_any A5 c5 U W (u5.below hW) hUl2 hUs)
          rw [HU.out] at FV1
          have HR5 := Lib.hid r5
          have hpl := hFs p (List.mem_of_getElem? hp)
          have FV2 := Lib.hid (fun (A : Option Addr) (c : Nat) (W : World) (hi : ISS W A (F ++ [p])) => fam_no A c _ F p W hi rfl (fam_dup hp) hF hFs hpl)
          obtain ⟨M, hM⟩ : ∃ M, M = mem 63 := ⟨_, rfl⟩
          have AMB := Lib.hid (fun (W : World) => allM_any W)
          rw [← hM] at AMB
          have hMl : M.length ≤ 1048576 := by rw [hM]; exact Nat.le_trans (mem_len _) (by omega)
          have FV3 := Lib.hid (fun (A : Option Addr) (c : Nat) (W : World) (hi : ISS W A (F ++ [M])) => fam_no A c _ F M W hi rfl (by rw [hM]; exact fam_full hn1) hF hFs hMl)
          have h63d : F.length + 1 ≤ maxLen := by unfold maxLen; omega
          have hbyd : (F.length + 1) * 24 ≤ 140737488355328 := by omega
          have h20i : (F.length : Int) ≤ 20 := by omega
          have hb0 : Below w5.heap.size w5 w5.drew := (Below.refl _ w5).drew
          clear r3 r4 r5 hM hp HOK HU u5
          go_wp2_with fail
          refine region_split #[true, true, true, true, true, true, true, true, true, true, true, true, true, false, false, false, false, false, false, false, false, false, false, false, false, false, false, false, false, false, false] 18 (fun a' w' => ∃ x0 x1 x2 x3 x4 x6 x7 x8 x9 x10 x11 x12 x13 x14 x15 x16 x17 x18 x19 x20 x21 x22 x23 x24 x25 x26 x27 x28 x29 x30 x31 x32 x33 x34 x35 x36 x37 x38 x39 x40 x41 x42 x43 x44 x45 x46 x47 x48 x49 x50 x51 x52 x53 x54 x56 x57 x58 x59 x60 x61 x62 x63 x64 : Value, a' = { tmps := #[x0, x1, x2, x3, x4, .slice (some ⟨g, 0, none⟩) F.length c1, x6, x7, x8, x9, x10, x11, x12, x13, x14, x15, x16, x17, x18, x19, x20, x21, x22, x23, x24, x25, x26, x27, x28, x29, x30, x31, x32, x33, x34, x35, x36, x37, x38, x39, x40, x41, x42, x43, x44, x45, x46, x47, x48, x49, x50, x51, x52, x53, x54, .bool true, x56, x57, x58, x59, x60, x61, x62, x63, x64, .bool false, undef, undef, undef, undef, undef, undef, undef, undef, undef, undef, undef, undef, undef, undef, undef, undef, undef], defers := [] } ∧ Below w5.heap.size w5 w') ?_ (fun KEY => ?_)
          · rintro a' w9 ⟨x0, x1, x2, x3, x4, x6, x7, x8, x9, x10, x11, x12, x13, x14, x15, x16, x17, x18, x19, x20, x21, x22, x23, x24, x25, x26, x27, x28, x29, x30, x31, x32, x33, x34, x35, x36, x37, x38, x39, x40, x41, x42, x43, x44, x45, x46, x47, x48, x49, x50, x51, x52, x53, x54, x56, x57, x58, x59, x60, x61, x62, x63, x64, rfl, K9⟩
            have K9E : Below w5.heap.size w5 (w9.alloc (.cells #[] 26)) := K9.alloc K9.size _
            have E9 := row_made w9 w9.heap.size (Nat.le_refl _)
            have z9 : w9.heap.size ≤ (w9.alloc (.cells #[] 26)).heap.size := (by rw [World.size_alloc]; omega)
            refine enter (P := Try.prog) (w := w9) ?_
            go_region_law (first
              | (refine enter_step (by assumption) (by kernel_rfl) (by kernel_rfl) ?_)
              | (refine at_dst (d := 72) rfl ?_; go_simp; go_at_call 7; (with_reducible refine (AMB.out _).mono ?_); rintro e w11 ⟨Am, cm, rfl, om, bm⟩; have K11 : Below w5.heap.size w5 w11 := (by first | exact below_step K10 bm | exact below_step K9E bm | exact below_step K9 bm); have z11 : w9.heap.size ≤ w11.heap.size := (by first | exact Nat.le_trans z10 bm.size | exact Nat.le_trans z9 bm.size | exact bm.size); have K11E : Below w5.heap.size w5 (w11.alloc (.cells #[] 26)) := K11.alloc K11.size _; have K11R : Below w5.heap.size w5 (w11.alloc (.cells #[.slice Am M.length cm] 26)) := K11.alloc K11.size _; have K11ER : Below w5.heap.size w5 ((w11.alloc (.cells #[] 26)).alloc (.cells #[.slice Am M.length cm] 26)) := K11E.alloc K11E.size _; have K11RE : Below w5.heap.size w5 ((w11.alloc (.cells #[.slice Am M.length cm] 26)).alloc (.cells #[] 26)) := K11R.alloc K11R.size _)
              | (refine at_dst (d := 71) rfl ?_; refine at_t 72 undef rfl ?_; refine step_append_g _ (d := 71) rfl (by kernel_rfl) (.tmp 69) (.tmp 70) 23 (by rfl) w9.heap.size 26 i0 (.slice none 0 0) 1 24 Try.underlying23 hi0 hz0 hz1 hz2 rfl (by decide) (.slice (some ⟨w9.heap.size, 0, none⟩) 0 0) 0 [] (by rfl) E9 ⟨g, 0, none⟩ F.length c1 rs (by rfl) LF (NW.out _ K9E) HR4.out h63c hbyc z9 ?_; intro v10 w10 hown10 hg10; rw [Nat.zero_add, List.nil_append] at hown10; obtain ⟨A10, c10, rfl⟩ := own_slice hown10; have K10 : Below w5.heap.size w5 w10 := K9E.grown hg10 K9E.size (fun x hx => (by cases hx; exact K9.size)); have L10 : ∀ x, (Value.slice A10 F.length c10).ownBlock = some x → w5.heap.size ≤ x := fun x hx => Nat.le_trans K9.size (hown10.lt x hx).1; have z10 : w9.heap.size ≤ w10.heap.size := (by have := hg10.size; simp at this; omega))
              | (refine at_dst (d := 71) rfl ?_; refine at_t 73 undef rfl ?_; refine at_t 69 (.slice (some ⟨w9.heap.size, 0, none⟩) 0 0) rfl ?_; refine step_append_g _ (d := 71) rfl (by kernel_rfl) (.tmp 69) (.tmp 70) 23 (by rfl) w9.heap.size 26 i0 (.slice none 0 0) 1 24 Try.underlying23 hi0 hz0 hz1 hz2 rfl (by decide) (.slice (some ⟨w9.heap.size, 0, none⟩) 0 0) 0 [] (by rfl) (row_keep E9 bm) ⟨g, 0, none⟩ F.length c1 rs (by rfl) LF (NW.out _ K11) HR4.out h63c hbyc z11 ?_; intro v10 w10 hown10 hg10; rw [Nat.zero_add, List.nil_append] at hown10; obtain ⟨A10, c10, rfl⟩ := own_slice hown10; have K10 : Below w5.heap.size w5 w10 := K11.grown hg10 K11.size (fun x hx => (by cases hx; exact K9.size)); have L10 : ∀ x, (Value.slice A10 F.length c10).ownBlock = some x → w5.heap.size ≤ x := fun x hx => Nat.le_trans K9.size (hown10.lt x hx).1; have z10 : w9.heap.size ≤ w10.heap.size := (by have := hg10.size; simp at this; omega); have om10 := om_grow om (row_keep E9 bm) hg10)
              | (refine at_dst (d := 71) rfl ?_; refine at_t 69 (.slice (some ⟨w9.heap.size, 0, none⟩) 0 0) rfl ?_; refine at_t 73 (.slice (some ⟨w11.heap.size, 0, none⟩) 1 1) rfl ?_; refine step_append_g _ (d := 71) rfl (by kernel_rfl) (.tmp 69) (.tmp 70) 23 (by rfl) w9.heap.size 26 i0 (.slice none 0 0) 1 24 Try.underlying23 hi0 hz0 hz1 hz2 rfl (by decide) (.slice (some ⟨w9.heap.size, 0, none⟩) 0 0) 0 [] (by rfl) ((row_keep E9 bm).alloc _) ⟨g, 0, none⟩ F.length c1 rs (by rfl) LF (NW.out _ K11R) HR4.out h63c hbyc (Nat.le_trans z11 (by rw [World.size_alloc]; omega)) ?_; intro v10 w10 hown10 hg10; rw [Nat.zero_add, List.nil_append] at hown10; obtain ⟨A10, c10, rfl⟩ := own_slice hown10; have K10 : Below w5.heap.size w5 w10 := K11R.grown hg10 K11R.size (fun x hx => (by cases hx; exact K9.size)); have L10 : ∀ x, (Value.slice A10 F.length c10).ownBlock = some x → w5.heap.size ≤ x := fun x hx => Nat.le_trans K9.size (hown10.lt x hx).1; have z10 : w9.heap.size ≤ w10.heap.size := (by have := hg10.size; simp at this; omega); have n10 := one_cell (made_one w11 (.slice Am M.length cm)) hg10 (by have := bm.size; simp [Value.ownBlock] at this ⊢; omega); have om10 := om_grow (om.alloc _) ((row_keep E9 bm).alloc _) hg10)
              | (refine at_dst (d := 71) rfl ?_; refine at_t 73 undef rfl ?_; refine at_t 69 (.slice (some ⟨w11.heap.size, 0, none⟩) 0 0) rfl ?_; refine step_append_g _ (d := 71) rfl (by kernel_rfl) (.tmp 69) (.tmp 70) 23 (by rfl) w9.heap.size 26 i0 (.slice none 0 0) 1 24 Try.underlying23 hi0 hz0 hz1 hz2 rfl (by decide) (.slice (some ⟨w11.heap.size, 0, none⟩) 0 0) 0 [] (by rfl) (row_made w11 w9.heap.size z11) ⟨g, 0, none⟩ F.length c1 rs (by rfl) LF (NW.out _ K11E) HR4.out h63c hbyc (Nat.le_trans z11 (by rw [World.size_alloc]; omega)) ?_; intro v10 w10 hown10 hg10; rw [Nat.zero_add, List.nil_append] at hown10; obtain ⟨A10, c10, rfl⟩ := own_slice hown10; have K10 : Below w5.heap.size w5 w10 := K11E.grown hg10 K11E.size (fun x hx => (by cases hx; exact K11.size)); have L10 : ∀ x, (Value.slice A10 F.length c10).ownBlock = some x → w5.heap.size ≤ x := fun x hx => Nat.le_trans K9.size (hown10.lt x hx).1; have z10 : w9.heap.size ≤ w10.heap.size := (by have := hg10.size; simp at this; omega); have om10 := om_grow (om.alloc _) (row_made w11 w9.heap.size z11) hg10)
              | (refine at_dst (d := 71) rfl ?_; refine at_t 69 (.slice (some ⟨w11.heap.size, 0, none⟩) 0 0) rfl ?_; refine at_t 73 (.slice (some ⟨w11.heap.size + 1, 0, none⟩) 1 1) rfl ?_; refine step_append_g _ (d := 71) rfl (by kernel_rfl) (.tmp 69) (.tmp 70) 23 (by rfl) w9.heap.size 26 i0 (.slice none 0 0) 1 24 Try.underlying23 hi0 hz0 hz1 hz2 rfl (by decide) (.slice (some ⟨w11.heap.size, 0, none⟩) 0 0) 0 [] (by rfl) ((row_made w11 w9.heap.size z11).alloc _) ⟨g, 0, none⟩ F.length c1 rs (by rfl) LF (NW.out _ K11ER) HR4.out h63c hbyc (Nat.le_trans z11 (by rw [World.size_alloc, World.size_alloc]; omega)) ?_; intro v10 w10 hown10 hg10; rw [Nat.zero_add, List.nil_append] at hown10; obtain ⟨A10, c10, rfl⟩ := own_slice hown10; have K10 : Below w5.heap.size w5 w10 := K11ER.grown hg10 K11ER.size (fun x hx => (by cases hx; exact K11.size)); have L10 : ∀ x, (Value.slice A10 F.length c10).ownBlock = some x → w5.heap.size ≤ x := fun x hx => Nat.le_trans K9.size (hown10.lt x hx).1; have z10 : w9.heap.size ≤ w10.heap.size := (by have := hg10.size; simp at this; omega); have n10 := one_cell (made_second w11 (.cells #[] 26) (.slice Am M.length cm)) hg10 (by simp [Value.ownBlock]); have om10 := om_grow ((om.alloc _).alloc _) ((row_made w11 w9.heap.size z11).alloc _) hg10)
              | (refine at_dst (d := 71) rfl ?_; refine at_t 69 (.slice (some ⟨w11.heap.size + 1, 0, none⟩) 0 0) rfl ?_; refine step_append_g _ (d := 71) rfl (by kernel_rfl) (.tmp 69) (.tmp 70) 23 (by rfl) w9.heap.size 26 i0 (.slice none 0 0) 1 24 Try.underlying23 hi0 hz0 hz1 hz2 rfl (by decide) (.slice (some ⟨w11.heap.size + 1, 0, none⟩) 0 0) 0 [] (by rfl) (made_row2 w11 w9.heap.size z11 _) ⟨g, 0, none⟩ F.length c1 rs (by rfl) LF (NW.out _ K11RE) HR4.out h63c hbyc (Nat.le_trans z11 (by rw [World.size_alloc, World.size_alloc]; omega)) ?_; intro v10 w10 hown10 hg10; rw [Nat.zero_add, List.nil_append] at hown10; obtain ⟨A10, c10, rfl⟩ := own_slice hown10; have K10 : Below w5.heap.size w5 w10 := K11RE.grown hg10 K11RE.size (fun x hx => (by cases hx; exact Nat.le_succ_of_le K11.size)); have L10 : ∀ x, (Value.slice A10 F.length c10).ownBlock = some x → w5.heap.size ≤ x := fun x hx => Nat.le_trans K9.size (hown10.lt x hx).1; have z10 : w9.heap.size ≤ w10.heap.size := (by have := hg10.size; simp at this; omega); have n10 := one_cell (made_first w11 (.cells #[] 26) (.slice Am M.length cm)) hg10 (by simp [Value.ownBlock]); have om10 := om_grow ((om.alloc _).alloc _) (made_row2 w11 w9.heap.size z11 _) hg10)
              | (refine at_dst (d := 74) rfl ?_; refine at_t 73 (.slice (some ⟨w11.heap.size, 0, none⟩) 1 1) rfl ?_; refine step_append_g _ (d := 74) rfl (by kernel_rfl) (.tmp 71) (.tmp 73) 23 (by rfl) w9.heap.size 26 i0 (.slice none 0 0) 1 24 Try.underlying23 hi0 hz0 hz1 hz2 rfl (by decide) (.slice A10 F.length c10) F.length rs (by rfl) ((row_keep hown10 bm).alloc _) ⟨w11.heap.size, 0, none⟩ 1 1 [.slice Am M.length cm] (by rfl) rfl (cell_one_new _ _ _) (slice_oneCell _ _ _) h63d hbyd (Nat.le_trans z11 (by rw [World.size_alloc]; omega)) ?_; intro v12 w12 hown12 hg12; obtain ⟨A12, c12, rfl⟩ := own_slice hown12; have K12 : Below w5.heap.size w5 w12 := K11R.grown hg12 K11R.size L10; have i12 := iss_more hown12 rfl r1 HR5.out K12 (IL.of_own (om_grow (om.alloc _) ((row_keep hown10 bm).alloc _) hg12)).1)
              | (refine at_dst (d := 74) rfl ?_; refine at_t 73 (.slice (some ⟨w10.heap.size, 0, none⟩) 1 1) rfl ?_; refine step_append_g _ (d := 74) rfl (by kernel_rfl) (.tmp 71) (.tmp 73) 23 (by rfl) w9.heap.size 26 i0 (.slice none 0 0) 1 24 Try.underlying23 hi0 hz0 hz1 hz2 rfl (by decide) (.slice A10 F.length c10) F.length rs (by rfl) (hown10.alloc _) ⟨w10.heap.size, 0, none⟩ 1 1 [.slice Am M.length cm] (by rfl) rfl (cell_one_new _ _ _) (slice_oneCell _ _ _) h63d hbyd (Nat.le_trans z10 (by rw [World.size_alloc]; omega)) ?_; intro v12 w12 hown12 hg12; obtain ⟨A12, c12, rfl⟩ := own_slice hown12; have K12 : Below w5.heap.size w5 w12 := (K10.alloc K10.size _).grown hg12 (K10.alloc K10.size _).size L10; have i12 := iss_more hown12 rfl r1 HR5.out K12 (IL.of_own (om_grow (om10.alloc _) (hown10.alloc _) hg12)).1)
              | (refine at_dst (d := 74) rfl ?_; refine at_t 73 (.slice (some ⟨w11.heap.size, 0, none⟩) 1 1) rfl ?_; refine step_append_g _ (d := 74) rfl (by kernel_rfl) (.tmp 71) (.tmp 73) 23 (by rfl) w9.heap.size 26 i0 (.slice none 0 0) 1 24 Try.underlying23 hi0 hz0 hz1 hz2 rfl (by decide) (.slice A10 F.length c10) F.length rs (by rfl) hown10 ⟨w11.heap.size, 0, none⟩ 1 1 [.slice Am M.length cm] (by rfl) rfl n10 (slice_oneCell _ _ _) h63d hbyd z10 ?_; intro v12 w12 hown12 hg12; obtain ⟨A12, c12, rfl⟩ := own_slice hown12; have K12 : Below w5.heap.size w5 w12 := K10.grown hg12 K10.size L10; have i12 := iss_more hown12 rfl r1 HR5.out K12 (IL.of_own (om_grow om10 hown10 hg12)).1)
              | (refine at_dst (d := 74) rfl ?_; refine at_t 73 (.slice (some ⟨w11.heap.size + 1, 0, none⟩) 1 1) rfl ?_; refine step_append_g _ (d := 74) rfl (by kernel_rfl) (.tmp 71) (.tmp 73) 23 (by rfl) w9.heap.size 26 i0 (.slice none 0 0) 1 24 Try.underlying23 hi0 hz0 hz1 hz2 rfl (by decide) (.slice A10 F.length c10) F.length rs (by rfl) hown10 ⟨w11.heap.size + 1, 0, none⟩ 1 1 [.slice Am M.length cm] (by rfl) rfl n10 (slice_oneCell _ _ _) h63d hbyd z10 ?_; intro v12 w12 hown12 hg12; obtain ⟨A12, c12, rfl⟩ := own_slice hown12; have K12 : Below w5.heap.size w5 w12 := K10.grown hg12 K10.size L10; have i12 := iss_more hown12 rfl r1 HR5.out K12 (IL.of_own (om_grow om10 hown10 hg12)).1)
              | (refine at_dst (d := 75) rfl ?_; go_simp; go_at_call 5; (with_reducible refine (FV3.out _ _ _ i12).mono ?_); rintro e w13 ⟨rfl, b13⟩; have K13 : Below w5.heap.size w5 w13 := below_step K12 b13)
              | fail)
            all_goals (
              have KF := Lib.hid (below_step B5 K13)
              go_wp2
              go_ret
              exact ⟨rfl, KF.out⟩)
          · go_region_law (first
              | (refine at_dst (d := 54) rfl ?_; go_simp; go_at_call 5; (with_reducible refine (FV1.out _ hb0).mono ?_); rintro e w6 ⟨rfl, b6⟩; have K6 : Below w5.heap.size w5 w6 := below_step hb0 b6; have c6 := CW.out _ K6; have K6E : Below w5.heap.size w5 (w6.alloc (.cells #[] 26)) := K6.alloc K6.size _; have c6E := CW.out _ K6E; have E6 := row_made w6 w6.heap.size (Nat.le_refl _); have K6R : Below w5.heap.size w5 (w6.alloc (.cells #[.slice Bp p.length dp] 26)) := K6.alloc K6.size _; have K6ER : Below w5.heap.size w5 ((w6.alloc (.cells #[] 26)).alloc (.cells #[.slice Bp p.length dp] 26)) := K6E.alloc K6E.size _; have K6RE : Below w5.heap.size w5 ((w6.alloc (.cells #[.slice Bp p.length dp] 26)).alloc (.cells #[] 26)) := K6R.alloc K6R.size _; have E6R := row_made (w6.alloc (.cells #[.slice Bp p.length dp] 26)) w6.heap.size (by rw [World.size_alloc]; omega); rw [World.size_alloc] at E6R; have s6E := K6E.size; have z6 : w6.heap.size ≤ (w6.alloc (.cells #[] 26)).heap.size := (by rw [World.size_alloc]; omega); have z6ER : w6.heap.size ≤ ((w6.alloc (.cells #[] 26)).alloc (.cells #[.slice Bp p.length dp] 26)).heap.size := (by rw [World.size_alloc, World.size_alloc]; omega); have z6RE : w6.heap.size ≤ ((w6.alloc (.cells #[.slice Bp p.length dp] 26)).alloc (.cells #[] 26)).heap.size := (by rw [World.size_alloc, World.size_alloc]; omega))
              | (refine at_dst (d := 58) rfl ?_; refine at_t 63 undef rfl ?_; refine step_append_g _ (d := 58) rfl (by kernel_rfl) (.tmp 56) (.tmp 57) 23 (by rfl) w6.heap.size 26 i0 (.slice none 0 0) 1 24 Try.underlying23 hi0 hz0 hz1 hz2 rfl (by decide) (.slice (some ⟨w6.heap.size, 0, none⟩) 0 0) 0 [] (by rfl) E6 ⟨g, 0, none⟩ F.length c1 rs (by rfl) LF (NW.out _ K6E) HR4.out h63c hbyc z6 ?_; intro v7 w7 hown7 hg7; rw [Nat.zero_add, List.nil_append] at hown7; obtain ⟨A7, c7, rfl⟩ := own_slice hown7; have K7 : Below w5.heap.size w5 w7 := K6E.grown hg7 K6E.size (fun x hx => (by cases hx; exact K6.size)); have c7c := CW.out _ K7; have L7 : ∀ x, (Value.slice A7 F.length c7).ownBlock = some x → w5.heap.size ≤ x := fun x hx => Nat.le_trans K6.size (hown7.lt x hx).1; have z7 : w6.heap.size ≤ w7.heap.size := Nat.le_trans (Nat.le_refl _) (by have := hg7.size; simp at this; omega))
              | (refine at_dst (d := 58) rfl ?_; refine at_t 63 (.slice (some ⟨w6.heap.size + 1, 0, none⟩) 1 1) rfl ?_; refine step_append_g _ (d := 58) rfl (by kernel_rfl) (.tmp 56) (.tmp 57) 23 (by rfl) w6.heap.size 26 i0 (.slice none 0 0) 1 24 Try.underlying23 hi0 hz0 hz1 hz2 rfl (by decide) (.slice (some ⟨w6.heap.size, 0, none⟩) 0 0) 0 [] (by rfl) (E6.alloc _) ⟨g, 0, none⟩ F.length c1 rs (by rfl) LF (NW.out _ K6ER) HR4.out h63c hbyc z6ER ?_; intro v7 w7 hown7 hg7; rw [Nat.zero_add, List.nil_append] at hown7; obtain ⟨A7, c7, rfl⟩ := own_slice hown7; have K7 : Below w5.heap.size w5 w7 := K6ER.grown hg7 K6ER.size (fun x hx => (by cases hx; exact K6.size)); have c7c := CW.out _ K7; have L7 : ∀ x, (Value.slice A7 F.length c7).ownBlock = some x → w5.heap.size ≤ x := fun x hx => Nat.le_trans K6.size (hown7.lt x hx).1; have z7 : w6.heap.size ≤ w7.heap.size := Nat.le_trans (Nat.le_refl _) (by have := hg7.size; simp at this; omega); have n7 := one_cell (made_second w6 (.cells #[] 26) (.slice Bp p.length dp)) hg7 (by simp [Value.ownBlock]))
              | (refine at_dst (d := 58) rfl ?_; refine at_t 63 (.slice (some ⟨w6.heap.size, 0, none⟩) 1 1) rfl ?_; refine step_append_g _ (d := 58) rfl (by kernel_rfl) (.tmp 56) (.tmp 57) 23 (by rfl) w6.heap.size 26 i0 (.slice none 0 0) 1 24 Try.underlying23 hi0 hz0 hz1 hz2 rfl (by decide) (.slice (some ⟨w6.heap.size + 1, 0, none⟩) 0 0) 0 [] (by rfl) E6R ⟨g, 0, none⟩ F.length c1 rs (by rfl) LF (NW.out _ K6RE) HR4.out h63c hbyc z6RE ?_; intro v7 w7 hown7 hg7; rw [Nat.zero_add, List.nil_append] at hown7; obtain ⟨A7, c7, rfl⟩ := own_slice hown7; have K7 : Below w5.heap.size w5 w7 := K6RE.grown hg7 K6RE.size (fun x hx => (by cases hx; exact Nat.le_succ_of_le K6.size)); have c7c := CW.out _ K7; have L7 : ∀ x, (Value.slice A7 F.length c7).ownBlock = some x → w5.heap.size ≤ x := fun x hx => Nat.le_trans K6.size (hown7.lt x hx).1; have z7 : w6.heap.size ≤ w7.heap.size := Nat.le_trans (Nat.le_refl _) (by have := hg7.size; simp at this; omega); have n7 := one_cell (made_first w6 (.cells #[] 26) (.slice Bp p.length dp)) hg7 (by simp [Value.ownBlock]))
              | (refine at_dst (d := 64) rfl ?_; refine at_t 63 (.slice (some ⟨w7.heap.size, 0, none⟩) 1 1) rfl ?_; refine step_append_g _ (d := 64) rfl (by kernel_rfl) (.tmp 58) (.tmp 63) 23 (by rfl) w6.heap.size 26 i0 (.slice none 0 0) 1 24 Try.underlying23 hi0 hz0 hz1 hz2 rfl (by decide) (.slice A7 F.length c7) F.length rs (by rfl) (hown7.alloc _) ⟨w7.heap.size, 0, none⟩ 1 1 [.slice Bp p.length dp] (by rfl) rfl (cell_one_new _ _ _) (slice_oneCell _ _ _) h63d hbyd (Nat.le_trans z7 (by rw [World.size_alloc]; omega)) ?_; have K7R := K7.alloc K7.size (.cells #[.slice Bp p.length dp] 26); intro v8 w8 hown8 hg8; obtain ⟨A8, c8, rfl⟩ := own_slice hown8; have K8 : Below w5.heap.size w5 w8 := K7R.grown hg8 K7R.size L7; have i8 := iss_more hown8 rfl r1 HR5.out K8 (hip.below K8))
              | (refine at_dst (d := 64) rfl ?_; refine at_t 63 (.slice (some ⟨w6.heap.size + 1, 0, none⟩) 1 1) rfl ?_; refine step_append_g _ (d := 64) rfl (by kernel_rfl) (.tmp 58) (.tmp 63) 23 (by rfl) w6.heap.size 26 i0 (.slice none 0 0) 1 24 Try.underlying23 hi0 hz0 hz1 hz2 rfl (by decide) (.slice A7 F.length c7) F.length rs (by rfl) hown7 ⟨w6.heap.size + 1, 0, none⟩ 1 1 [.slice Bp p.length dp] (by rfl) rfl n7 (slice_oneCell _ _ _) h63d hbyd z7 ?_; intro v8 w8 hown8 hg8; obtain ⟨A8, c8, rfl⟩ := own_slice hown8; have K8 : Below w5.heap.size w5 w8 := K7.grown hg8 K7.size L7; have i8 := iss_more hown8 rfl r1 HR5.out K8 (hip.below K8))
              | (refine at_dst (d := 64) rfl ?_; refine at_t 63 (.slice (some ⟨w6.heap.size, 0, none⟩) 1 1) rfl ?_; refine step_append_g _ (d := 64) rfl (by kernel_rfl) (.tmp 58) (.tmp 63) 23 (by rfl) w6.heap.size 26 i0 (.slice none 0 0) 1 24 Try.underlying23 hi0 hz0 hz1 hz2 rfl (by decide) (.slice A7 F.length c7) F.length rs (by rfl) hown7 ⟨w6.heap.size, 0, none⟩ 1 1 [.slice Bp p.length dp] (by rfl) rfl n7 (slice_oneCell _ _ _) h63d hbyd z7 ?_; intro v8 w8 hown8 hg8; obtain ⟨A8, c8, rfl⟩ := own_slice hown8; have K8 : Below w5.heap.size w5 w8 := K7.grown hg8 K7.size L7; have i8 := iss_more hown8 rfl r1 HR5.out K8 (hip.below K8))
              | (refine at_dst (d := 65) rfl ?_; go_simp; go_at_call 5; (with_reducible refine (FV2.out _ _ _ i8).mono ?_); rintro e w9 ⟨rfl, b9⟩; have K9 : Below w5.heap.size w5 w9 := below_step K8 b9; refine cut_close (by assumption) (by kernel_rfl) (KEY _ _ ⟨_, _, _, _, _, _, _, _, _, _, _, _, _, _, _, _, _, _, _, _, _, _, _, _, _, _, _, _, _, _, _, _, _, _, _, _, _, _, _, _, _, _, _, _, _, _, _, _, _, _, _, _, _, _, _, _, _, _, _, _, _, _, _, rfl, K9⟩) ?_)
              | fail)
            all_goals trivial
    · go_enter Try.func3, Try.ntmps3
      go_wp2_with fail
      go_ret
      exact ⟨rfl, Below.refl _ _⟩
  · go_enter Try.func3, Try.ntmps3
    go_wp2_with fail
    go_ret
    exact ⟨rfl, Below.refl _ _⟩
end Go.Proofs.Ytngacjfoldgjpab
