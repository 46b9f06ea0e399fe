/- The walk of the law on valid sets. -/
import Derived.Test.YtlggnnndahgbjaaImpl
import Derived.Test.YtlggnnndahgbjaaDraw2
import Derived.Deep.RegionHeld3
import Derived.Maps.AppendAt
namespace Go.Proofs.Ytlggnnndahgbjaa
open Go.RowKit

theorem vld_take {l : List Int} (h : vld l = true) (k : Nat) (hk : k ≤ l.length) : vld (l.take k) = true := by
  have H : ∀ l ∈ allSets, ∀ k : Fin 7, vld (l.take k.val) = true := by decide +kernel
  exact H l (vld_all h) ⟨k, by have := vld_len h; omega⟩
theorem vld_seven {l : List Int} (h : vld l = true) : vld (l ++ [7]) = false := all_of (P := fun l => vld (l ++ [7]) = false) (by decide +kernel) h
theorem vld_again {l : List Int} (h : vld l = true) {j : Nat} (hj : l.length = j + 1) {x : Int} (hx : l[j]? = some x) : vld (l ++ [x]) = false := by
  have H : ∀ l ∈ allSets, ∀ x, l.getLast? = some x → vld (l ++ [x]) = false := by
    have H1 : ∀ l ∈ allSets, ∀ x ∈ l.getLast?.toList, vld (l ++ [x]) = false := by decide +kernel
    exact fun l hl x hx => H1 l hl x (by rw [hx]; simp)
  refine H l (vld_all h) x ?_
  rw [List.getLast?_eq_getElem?, hj]
  exact hx
theorem IL.take {w : World} {A : Option Addr} {l : List Int} (h : IL w A l) (n : Nat) : IL w A (l.take n) := by
  rcases h with rfl | ⟨b, off, rfl, hlt, hc⟩
  · left; simp
  · refine .inr ⟨b, off, rfl, hlt, fun j x hx => hc j x ?_⟩
    rw [List.getElem?_take] at hx
    split at hx
    · exact hx
    · cases hx

section
variable {P : Program} (w : World)
/-- append of a slice that reads as l2 onto a row of the call's own: whatever it is, nil or not. -/
theorem run_app (base : Nat) (t ty e : TypeId) (i : TypeInfo) (ht : P.underlying t = some (.slice e)) (hi : P.info? e = some i) (hz : i.zero = some (.int .i64 0)) (hsize : i.size = 1) (hby : i.bytes = 8)
    (v : Value) (l1 : List Int) (hown : w.ownsRow base e 1 v l1.length (l1.map (Value.int .i64))) (A : Option Addr) (c : Nat) (l2 : List Int) (hr : IL w A l2) (hc : A = none → l2 = [] ∧ c = 0)
    (hl : l1.length + l2.length ≤ 1000000) (hbase : base ≤ w.heap.size) :
    ∃ v' w', (Builtin.append_ #[t, t] ty #[v, .slice A l2.length c]).run P w = .ok v' w' ∧ w'.ownsRow base e 1 v' (l1 ++ l2).length ((l1 ++ l2).map (Value.int .i64)) ∧ w.grownBy w' v.ownBlock := by
  rcases A with _ | ad
  · obtain ⟨rfl, rfl⟩ := hc rfl
    exact ⟨v, w, run_append_owned_none w base t ty e i 1 ht hi v _ _ hown, by simpa using hown, World.grownBy.refl w _⟩
  · have hcells : ∀ j u, (l2.map (Value.int .i64))[j]? = some u → w.cell? (ad.add j) = some u := by
      intro j u hu
      rcases hr with rfl | ⟨b, off, e, _, hcell⟩
      · simp at hu
      · injection e with e
        subst e
        rw [Addr.add_lit]
        rw [List.getElem?_map] at hu
        obtain ⟨x, hx, rfl⟩ := Option.map_eq_some_iff.1 hu
        exact hcell j x hx
    obtain ⟨v', w', hrun, h2, h3, _⟩ := run_append_own (P := P) w base t ty e i (.int .i64 0) 1 8 ht hi hz hsize hby rfl (by omega) v _ _ hown ad l2.length c (l2.map (Value.int .i64)) (by simp) hcells (ints_oneCell .i64 l2)
      (by unfold maxLen; omega) (by omega) hbase
    exact ⟨v', w', hrun, by simpa using h2, h3⟩
theorem step_app {ops : Array Oper} {o : Oper} {a : Act} {K : Act → World → Prop} {Q : Exit → Act → World → Prop} {E : Prop} (hw : Region.wanted o (yielded ops a.tmps) = true) (s x : Operand) (t : TypeId)
    (ho : o.op = .call { callee := .builtin .append, args := #[s, x], argTypes := #[t, t] })
    (base : Nat) (e : TypeId) (i : TypeInfo) (ht : P.underlying t = some (.slice e)) (hi : P.info? e = some i) (hz : i.zero = some (.int .i64 0)) (hsize : i.size = 1) (hby : i.bytes = 8)
    (v : Value) (l1 : List Int) (hs : a.eval s = v) (A : Option Addr) (c : Nat) (l2 : List Int) (n2 : Nat) (hx : a.eval x = .slice A n2 c)
    (hown : w.ownsRow base e 1 v l1.length (l1.map (Value.int .i64))) (hr : IL w A l2) (hn : n2 = l2.length) (hc : A = none → l2 = [] ∧ c = 0)
    (hl : l1.length + l2.length ≤ 1000000) (hbase : base ≤ w.heap.size)
    (h : ∀ A' c' w', w'.ownsRow base e 1 (.slice A' (l1 ++ l2).length c') (l1 ++ l2).length ((l1 ++ l2).map (Value.int .i64)) → w.grownBy w' v.ownBlock → (∀ k, v.ownBlock = some k → base ≤ k) → K (a.put o.dst (.slice A' (l1 ++ l2).length c')) w') :
    if Region.wanted o (yielded ops a.tmps) = true then Oper.wp P o a w K Q else E := by
  rw [if_pos hw]
  subst hn
  obtain ⟨v', w', hrun, h2, h3⟩ := run_app (P := P) w base t o.type e i ht hi hz hsize hby v l1 hown A c l2 hr hc hl hbase
  obtain ⟨A', c', rfl⟩ := own_slice h2
  unfold Oper.wp execOp
  simp only [ho, resolve, invoke, builtin, Sem.run_bind, Sem.run_pure, Result.andThen_ok, List.map_toArray, List.map_cons, List.map_nil, hs, hx, hrun]
  exact h A' c' w' h2 h3 (fun k hk => (hown.lt k hk).1)
end
theorem own_block {w : World} {base g n : Nat} {l : List Int} (h : w.heap[g]? = some (.cells (l.map (Value.int .i64)).toArray 3 (0, 0))) (hb : base ≤ g) (hn : n = l.length) (hl : l.length ≤ 1000) :
    w.ownsRow base 3 1 (.slice (some ⟨g, 0, none⟩) n n) n (l.map (Value.int .i64)) := by
  subst hn
  exact ⟨by simp, .inr ⟨g, l.length, _, rfl, hb, h, Nat.le_refl _, by unfold maxLen; omega, by simp, by simpa using List.take_of_length_le (by simp)⟩⟩

theorem heapN1 (v : World) (o o' : Obj) : ((v.alloc o).alloc o').heap[v.heap.size]? = some o := (Below.heap_alloc (v.alloc o) o' v.heap.size (by simp)).trans (heap_alloc_new v o)
theorem heapN2 (v : World) (o o' : Obj) : ((v.alloc o).alloc o').heap[v.heap.size + 1]? = some o' := by have := heap_alloc_new (v.alloc o) o'; rwa [show (v.alloc o).heap.size = v.heap.size + 1 by simp] at this
/-- SetValid of a slice of n numbers. -/
theorem implValid_n (A : Option Addr) (c n : Nat) (b : Bool) (w : World) (h : ∃ l : List Int, l.length = n ∧ l.length ≤ 1000 ∧ IL w A l ∧ vld l = b) :
    Calls Try.prog 6 #[.slice A n c] w fun e w' => e = .returned (.bool b) ∧ w = w' := by
  obtain ⟨l, rfl, hl, hi, rfl⟩ := h
  exact implValid_any A c l w hi (by omega)
theorem ks_alloc {W w' : World} {o : Obj} {b i : Nat} {v : Value} (hb : b < W.heap.size) (h : Below W.heap.size W w' ∧ w'.cell? ⟨b, i, none⟩ = some v) : Below W.heap.size W (w'.alloc o) ∧ (w'.alloc o).cell? ⟨b, i, none⟩ = some v :=
  ⟨h.1.alloc h.1.size o, (World.cell?_alloc_past _ _ _ (by have := h.1.size; show b < _; omega)).trans h.2⟩
theorem ks_grown {W w' w'' : World} {row : Option Nat} {b i : Nat} {v : Value} (hb : b < W.heap.size) (h : Below W.heap.size W w' ∧ w'.cell? ⟨b, i, none⟩ = some v) (hg : w'.grownBy w'' row) (hr : ∀ k, row = some k → W.heap.size ≤ k) :
    Below W.heap.size W w'' ∧ w''.cell? ⟨b, i, none⟩ = some v :=
  ⟨h.1.grown hg h.1.size hr, hg.cell h.2 (fun e => by have := hr b e.symm; omega)⟩
theorem il_block {w : World} {g : Nat} {x : Int} (h : w.heap[g]? = some (.cells #[Value.int .i64 x] 3 (0, 0))) : IL w (some ⟨g, 0, none⟩) [x] :=
  .inr ⟨g, 0, rfl, (Array.getElem?_eq_some_iff.1 h).1, fun j y hy => by
    rw [cell_of_row w g (0 + j) _ _ (0, 0) h]
    match j, hy with
    | 0, hy => simp at hy; subst hy; rfl⟩
theorem ks_alloc_drew {W w' : World} {o : Obj} {b i : Nat} {v : Value} (hb : b < W.heap.size) (h : Below W.heap.size W w'.drew ∧ w'.drew.cell? ⟨b, i, none⟩ = some v) : Below W.heap.size W (w'.alloc o).drew ∧ (w'.alloc o).drew.cell? ⟨b, i, none⟩ = some v :=
  ks_alloc (w' := w'.drew) hb h
theorem ks_grown2 {W w' w'' : World} {row : Option Nat} {b i : Nat} {v : Value} (hb : b < W.heap.size) (hg : w'.grownBy w'' row) (hr : ∀ k, row = some k → W.heap.size ≤ k) (h : Below W.heap.size W w' ∧ w'.cell? ⟨b, i, none⟩ = some v) :
    Below W.heap.size W w'' ∧ w''.cell? ⟨b, i, none⟩ = some v := ks_grown hb h hg hr
theorem kb_alloc {W w' : World} {o : Obj} (h : Below W.heap.size W w') : Below W.heap.size W (w'.alloc o) := h.alloc h.size o
theorem kb_alloc_drew {W w' : World} {o : Obj} (h : Below W.heap.size W w'.drew) : Below W.heap.size W (w'.alloc o).drew := kb_alloc (w' := w'.drew) h
theorem kb_grown {W w' w'' : World} {row : Option Nat} (hg : w'.grownBy w'' row) (hr : ∀ k, row = some k → W.heap.size ≤ k) (h : Below W.heap.size W w') : Below W.heap.size W w'' := h.grown hg h.size hr
theorem bel_of {W w' : World} {C : Prop} (h : Below W.heap.size W w' ∧ C) : Below W.heap.size W w' := h.1
/-- The row of a new block, seen from any world with that heap. -/
theorem own_last {W X w' : World} {l : List Int} {n : Nat} (hh : w'.heap = (X.alloc (.cells (l.map (Value.int .i64)).toArray 3)).heap) (hb : Below W.heap.size W X) (hn : n = l.length) (hl : l.length ≤ 1000) :
    w'.ownsRow W.heap.size 3 1 (.slice (some ⟨X.heap.size, 0, none⟩) n n) n (l.map (Value.int .i64)) :=
  own_block (by rw [hh]; exact heap_alloc_new X _) hb.size hn hl

set_option maxHeartbeats 16000000 in
set_option maxRecDepth 100000 in
theorem walkSetValidLaw (A B : Option Addr) (c d : Nat) (l m : List Int) (w : World) (ha : BL w A l) (hc : l.length ≤ c) (hmc : c ≤ maxLen) (hd : m.length ≤ d) (hmd : d ≤ maxLen) :
    Calls Try.prog 3 #[.slice A l.length c, .slice B m.length d] w fun e w' => e = .returned (.bool true) ∧ Below w.heap.size w w' := by
  obtain ⟨i0, hi0, hz0, hz1, hz2⟩ := info_parts int_info
  have hm : l.length ≤ maxLen := Nat.le_trans hc hmc
  have hm2 : m.length ≤ maxLen := Nat.le_trans hd hmd
  obtain ⟨M, hM⟩ : ∃ M, M = m.length := ⟨_, rfl⟩
  rw [← hM] at hd hm2 ⊢
  clear hM
  unfold maxLen at hm2
  by_cases hl : l.length ≤ 1048576
  · by_cases hl2 : M ≤ 1048576
    · go_enter Try.func3, Try.ntmps3
      go_wp2_with fail
      refine (drawSetValid_any _ _ _ _ ha hc hm hmc).mono ?_
      rintro e w1 ⟨s, hs7, As, cs, rfl, os, b1⟩
      go_wp2_with fail
      refine (implValid_any _ _ _ _ (IL.of_own os).1 (by omega)).mono ?_
      rintro e w' ⟨rfl, rfl⟩
      go_wp2_with fail
      refine (specValid_any _ _ _ _ (IL.of_own os).1 (by omega)).mono ?_
      rintro e w2 ⟨rfl, b2⟩
      have os := os.kept (row := none) ⟨b2.os, b2.tape, b2.output, b2.size, fun i hi _ => b2.block i hi⟩ (by cases (Value.slice As s.length cs).ownBlock <;> simp)
      have B2 := below_step b1 b2
      clear b1 b2
      cases hv : vld s
      · go_wp2_with fail
        refine (specValid_f _ _ _ _ (IL.of_own os).1 (by omega) hv).mono ?_
        rintro e w3 ⟨rfl, b3⟩
        have B3 := below_step B2 b3
        clear b3 B2 os hv
        go_wp2
        go_ret
        exact ⟨rfl, B3⟩
      · have HV := Lib.hid hv
        have hs6 := vld_len hv
        clear hv hs7
        have hcs : s.length ≤ cs := by
          rcases os.2 with ⟨e, h0⟩ | ⟨g, cap, cur, e, _, _, hcap, _⟩
          · omega
          · injection e with e1 e2 e3; omega
        have is := (IL.of_own os).1
        have hnil : As = none → s = [] ∧ cs = 0 := by
          rintro rfl
          rcases os.2 with ⟨e, h0⟩ | ⟨g, cap, cur, e, _⟩
          · injection e with e1 e2 e3; exact ⟨List.eq_nil_of_length_eq_zero h0, e3⟩
          · injection e with e1 e2 e3; cases e1
        clear os
        go_wp2_with fail
        obtain ⟨k, hk, hkl⟩ : ∃ k : Nat, (M : Int) % ((s.length : Int) + 1) = (k : Int) ∧ k ≤ s.length := by
          obtain ⟨k, hk⟩ := Int.eq_ofNat_of_zero_le (Int.emod_nonneg (M : Int) (b := (s.length : Int) + 1) (by omega))
          have := Int.emod_lt_of_pos (M : Int) (b := (s.length : Int) + 1) (by omega)
          exact ⟨k, hk, by omega⟩
        rw [hk]
        clear hk
        have HT := Lib.hid (vld_take HV.out k hkl)
        have H7 := Lib.hid (vld_seven HV.out)
        have hk0 : (0 : Int) ≤ (k : Int) := by omega
        have hk1 : (k : Int) ≤ (cs : Int) := by omega
        rcases Nat.eq_zero_or_pos s.length with h0 | h0
        · obtain rfl : s = [] := List.eq_nil_of_length_eq_zero h0
          obtain rfl : k = 0 := by simpa using hkl
          have hnil0 : As = none → ([] : List Int) = [] ∧ cs = 0 := hnil
          clear hnil HT is hs6 hcs h0 hkl
          simp only [List.length_nil, Int.natCast_zero] at *
          refine wp_region_noPanic ?_
          refine wp_region_held_drew (S := fun w' => Below w2.heap.size w2 w') (by kernel_rfl) (Below.refl _ _).drew (fun hH0 => ?_)
          refine wpAnyH_take (i := 0) (v := ?_) rfl (by kernel_rfl) (by kernel_rfl) (by kernel_rfl) (fun _ _ _ h => h) (Or.inl ⟨by rfl, ?_⟩) (by assumption) ?_
          rotate_left
          · (intro w hSw; go_simp; try with_reducible rfl)
          try simp only [Act.put, List.getElem_toArray, List.getElem_cons_succ, List.getElem_cons_zero, List.setIfInBounds_toArray, List.set_cons_zero, List.set_cons_succ]
          refine wpAnyH_take (i := 1) (v := ?_) rfl (by kernel_rfl) (by kernel_rfl) (by kernel_rfl) (fun _ _ _ h => h) (Or.inl ⟨by rfl, ?_⟩) (by assumption) ?_
          rotate_left
          · (intro w hSw; go_simp; try with_reducible rfl)
          try simp only [Act.put, List.getElem_toArray, List.getElem_cons_succ, List.getElem_cons_zero, List.setIfInBounds_toArray, List.set_cons_zero, List.set_cons_succ]
          refine wpAnyH_take (i := 2) (v := ?_) rfl (by kernel_rfl) (by kernel_rfl) (by kernel_rfl) (fun _ _ _ h => h) (Or.inl ⟨by rfl, ?_⟩) (by assumption) ?_
          rotate_left
          · (intro w hSw; go_simp; try with_reducible rfl)
          try simp only [Act.put, List.getElem_toArray, List.getElem_cons_succ, List.getElem_cons_zero, List.setIfInBounds_toArray, List.set_cons_zero, List.set_cons_succ]
          refine wpAnyH_ready (rs := [3]) (by kernel_rfl) (by simp) ?_
          refine AllReadyH.cons rfl (fun K hK => ?_) AllReadyH.nil
          go_simp
          refine (implValid_n _ _ _ true _ ⟨[], ?_, ?_, .inl rfl, rfl⟩).mono ?_
          · simp
          · simp
          rintro e w' ⟨rfl, rfl⟩
          refine hK.out _ _ ?_ (fun hH => ?_)
          · (first | assumption | (apply kb_alloc; assumption) | (apply kb_alloc_drew; assumption) | (apply kb_grown; (first | exact g2 | exact g1); assumption; assumption))
          clear hK K
          try simp only [Act.put, List.getElem_toArray, List.getElem_cons_succ, List.getElem_cons_zero, List.setIfInBounds_toArray, List.set_cons_zero, List.set_cons_succ]
          refine wpAnyH_take (i := 4) (v := ?_) rfl (by kernel_rfl) (by kernel_rfl) (by kernel_rfl) (fun _ _ _ h => h) (Or.inl ⟨by rfl, ?_⟩) (by assumption) ?_
          rotate_left
          · (intro w hSw; go_simp; try with_reducible rfl)
          try simp only [Act.put, List.getElem_toArray, List.getElem_cons_succ, List.getElem_cons_zero, List.setIfInBounds_toArray, List.set_cons_zero, List.set_cons_succ]
          refine wpAnyH_take (i := 6) (v := ?_) rfl (by kernel_rfl) (by kernel_rfl) (by kernel_rfl) (fun _ _ _ h => h) (Or.inl ⟨by rfl, ?_⟩) (by assumption) ?_
          rotate_left
          · (intro w hSw; go_simp; try with_reducible rfl)
          try simp only [Act.put, List.getElem_toArray, List.getElem_cons_succ, List.getElem_cons_zero, List.setIfInBounds_toArray, List.set_cons_zero, List.set_cons_succ]
          refine wpAnyH_ready (rs := [5, 8]) (by kernel_rfl) (by simp) ?_
          refine AllReadyH.cons rfl (fun K hK => ?_) (AllReadyH.cons rfl (fun K hK => ?_) AllReadyH.nil)
          · go_simp
            refine hK.out _ _ ?_ (fun hH => ?_)
            · (first | assumption | (apply kb_alloc; assumption) | (apply kb_alloc_drew; assumption) | (apply kb_grown; (first | exact g2 | exact g1); assumption; assumption))
            clear hK K
            try simp only [Act.put, List.getElem_toArray, List.getElem_cons_succ, List.getElem_cons_zero, List.setIfInBounds_toArray, List.set_cons_zero, List.set_cons_succ]
            refine wpAnyH_ready (rs := [7, 8]) (by kernel_rfl) (by simp) ?_
            refine AllReadyH.cons rfl (fun K hK => ?_) (AllReadyH.cons rfl (fun K hK => ?_) AllReadyH.nil)
            · apply step_app (s := .tmp 43) (x := .tmp 44) (t := 23) (base := w2.heap.size) (e := 3) (i := i0) (ht := Try.underlying23) (hi := hi0) (hz := hz0) (hsize := hz1) (hby := hz2) (l1 := []) (l2 := []) (n2 := 0)
              case hw => rfl
              case ho => rfl
              case hs => rfl
              case hx => rfl
              case hown => (refine own_block (l := []) ?_ ?_ rfl ?_; (first | exact heap_alloc_new w2 _ | exact heapN1 w2 _ _ | exact heapN2 w2 _ _); (first | omega | simp); (simp))
              case hr => exact .inl rfl
              case hn => rfl
              case hc => (intro h; exact ⟨rfl, (hnil0 h).2⟩)
              case hl => (simp)
              case hbase => (first | omega | (simp; done) | (simp; omega))
              intro A1 c1 v1 o1 g1 q1
              refine hK.out _ _ ?_ (fun hH => ?_)
              · (first | assumption | (apply kb_alloc; assumption) | (apply kb_alloc_drew; assumption) | (apply kb_grown; (first | exact g2 | exact g1); assumption; assumption))
              clear hK K
              try simp only [Act.put, List.getElem_toArray, List.getElem_cons_succ, List.getElem_cons_zero, List.setIfInBounds_toArray, List.set_cons_zero, List.set_cons_succ]
              refine wpAnyH_ready (rs := [8]) (by kernel_rfl) (by simp) ?_
              refine AllReadyH.cons rfl (fun K hK => ?_) AllReadyH.nil
              go_simp
              refine hK.out _ _ ?_ (fun hH => ?_)
              · (first | assumption | (apply kb_alloc; assumption) | (apply kb_alloc_drew; assumption) | (apply kb_grown; (first | exact g2 | exact g1); assumption; assumption))
              clear hK K
              try simp only [Act.put, List.getElem_toArray, List.getElem_cons_succ, List.getElem_cons_zero, List.setIfInBounds_toArray, List.set_cons_zero, List.set_cons_succ]
              refine wpAnyH_ready (rs := [9]) (by kernel_rfl) (by simp) ?_
              refine AllReadyH.cons rfl (fun K hK => ?_) AllReadyH.nil
              apply step_app (s := .tmp 45) (x := .tmp 46) (t := 23) (base := w2.heap.size) (e := 3) (i := i0) (ht := Try.underlying23) (hi := hi0) (hz := hz0) (hsize := hz1) (hby := hz2) (l1 := ([] ++ [])) (l2 := [7]) (n2 := 1)
              case hw => rfl
              case ho => rfl
              case hs => rfl
              case hx => rfl
              case hown => (first | exact o1 | exact o1.alloc _)
              case hr => (refine il_block ?_; first | exact heap_alloc_new v1 _ | (refine (g1.block _ ?_ ?_).trans ?_; (simp <;> omega); (change some _ ≠ some _; simp); (first | exact heap_alloc_new w2 _ | exact heapN1 w2 _ _ | exact heapN2 w2 _ _)))
              case hn => rfl
              case hc => (intro h; cases h)
              case hl => (simp)
              case hbase => (have h1 := g1.size; simp at h1 ⊢; omega)
              intro A2 c2 v2 o2 g2 q2
              refine hK.out _ _ ?_ (fun hH => ?_)
              · (first | assumption | (apply kb_alloc; assumption) | (apply kb_alloc_drew; assumption) | (apply kb_grown; (first | exact g2 | exact g1); assumption; assumption))
              clear hK K
              try simp only [Act.put, List.getElem_toArray, List.getElem_cons_succ, List.getElem_cons_zero, List.setIfInBounds_toArray, List.set_cons_zero, List.set_cons_succ]
              refine wpAnyH_ready (rs := [10]) (by kernel_rfl) (by simp) ?_
              refine AllReadyH.cons rfl (fun K hK => ?_) AllReadyH.nil
              go_simp
              refine (implValid_n _ _ _ false _ ⟨[] ++ [] ++ [7], ?_, ?_, (IL.of_own o2).1, H7.out⟩).mono ?_
              · simp
              · simp
              rintro e w' ⟨rfl, rfl⟩
              refine hK.out _ _ ?_ (fun hH => ?_)
              · (first | assumption | (apply kb_alloc; assumption) | (apply kb_alloc_drew; assumption) | (apply kb_grown; (first | exact g2 | exact g1); assumption; assumption))
              clear hK K
              try simp only [Act.put, List.getElem_toArray, List.getElem_cons_succ, List.getElem_cons_zero, List.setIfInBounds_toArray, List.set_cons_zero, List.set_cons_succ]
              refine wpAnyH_take (i := 11) (v := ?_) rfl (by kernel_rfl) (by kernel_rfl) (by kernel_rfl) (fun _ _ _ h => h) (Or.inl ⟨by rfl, ?_⟩) (by assumption) ?_
              rotate_left
              · (intro w hSw; go_simp; try with_reducible rfl)
              try simp only [Act.put, List.getElem_toArray, List.getElem_cons_succ, List.getElem_cons_zero, List.setIfInBounds_toArray, List.set_cons_zero, List.set_cons_succ]
              refine wpAnyH_take (i := 12) (v := ?_) rfl (by kernel_rfl) (by kernel_rfl) (by kernel_rfl) (fun _ _ _ h => h) (Or.inl ⟨by rfl, ?_⟩) (by assumption) ?_
              rotate_left
              · (intro w hSw; go_simp; try with_reducible rfl)
              try simp only [Act.put, List.getElem_toArray, List.getElem_cons_succ, List.getElem_cons_zero, List.setIfInBounds_toArray, List.set_cons_zero, List.set_cons_succ]
              refine wpAnyH_take (i := 13) (v := ?_) rfl (by kernel_rfl) (by kernel_rfl) (by kernel_rfl) (fun _ _ _ h => h) (Or.inl ⟨by rfl, ?_⟩) (by assumption) ?_
              rotate_left
              · (intro w hSw; go_simp; try with_reducible rfl)
              try simp only [Act.put, List.getElem_toArray, List.getElem_cons_succ, List.getElem_cons_zero, List.setIfInBounds_toArray, List.set_cons_zero, List.set_cons_succ]
              refine wpAnyH_take (i := 14) (v := ?_) rfl (by kernel_rfl) (by kernel_rfl) (by kernel_rfl) (fun _ _ _ h => h) (Or.inl ⟨by rfl, ?_⟩) (by assumption) ?_
              rotate_left
              · (intro w hSw; go_simp; try with_reducible rfl)
              try simp only [Act.put, List.getElem_toArray, List.getElem_cons_succ, List.getElem_cons_zero, List.setIfInBounds_toArray, List.set_cons_zero, List.set_cons_succ]
              refine wpAnyH_take (i := 15) (v := ?_) rfl (by kernel_rfl) (by kernel_rfl) (by kernel_rfl) (fun _ _ _ h => h) (Or.inl ⟨by rfl, ?_⟩) (by assumption) ?_
              rotate_left
              · (intro w hSw; go_simp; try with_reducible rfl)
              try simp only [Act.put, List.getElem_toArray, List.getElem_cons_succ, List.getElem_cons_zero, List.setIfInBounds_toArray, List.set_cons_zero, List.set_cons_succ]
              refine wpAnyH_take (i := 16) (v := ?_) rfl (by kernel_rfl) (by kernel_rfl) (by kernel_rfl) (fun _ _ _ h => h) (Or.inl ⟨by rfl, ?_⟩) (by assumption) ?_
              rotate_left
              · (intro w hSw; go_simp; try with_reducible rfl)
              try simp only [Act.put, List.getElem_toArray, List.getElem_cons_succ, List.getElem_cons_zero, List.setIfInBounds_toArray, List.set_cons_zero, List.set_cons_succ]
              refine wpAnyH_take (i := 17) (v := ?_) rfl (by kernel_rfl) (by kernel_rfl) (by kernel_rfl) (fun _ _ _ h => h) (Or.inl ⟨by rfl, ?_⟩) (by assumption) ?_
              rotate_left
              · (intro w hSw; go_simp; try with_reducible rfl)
              try simp only [Act.put, List.getElem_toArray, List.getElem_cons_succ, List.getElem_cons_zero, List.setIfInBounds_toArray, List.set_cons_zero, List.set_cons_succ]
              refine wpAnyH_take (i := 18) (v := undef) rfl (by kernel_rfl) (by kernel_rfl) (by kernel_rfl) (fun _ _ _ h => h) (Or.inr ⟨by kernel_rfl, rfl⟩) (by assumption) ?_
              try simp only [Act.put, List.getElem_toArray, List.getElem_cons_succ, List.getElem_cons_zero, List.setIfInBounds_toArray, List.set_cons_zero, List.set_cons_succ]
              refine wpAnyH_take (i := 19) (v := undef) rfl (by kernel_rfl) (by kernel_rfl) (by kernel_rfl) (fun _ _ _ h => h) (Or.inr ⟨by kernel_rfl, rfl⟩) (by assumption) ?_
              try simp only [Act.put, List.getElem_toArray, List.getElem_cons_succ, List.getElem_cons_zero, List.setIfInBounds_toArray, List.set_cons_zero, List.set_cons_succ]
              refine wpAnyH_take (i := 20) (v := undef) rfl (by kernel_rfl) (by kernel_rfl) (by kernel_rfl) (fun _ _ _ h => h) (Or.inr ⟨by kernel_rfl, rfl⟩) (by assumption) ?_
              try simp only [Act.put, List.getElem_toArray, List.getElem_cons_succ, List.getElem_cons_zero, List.setIfInBounds_toArray, List.set_cons_zero, List.set_cons_succ]
              refine wpAnyH_take (i := 21) (v := undef) rfl (by kernel_rfl) (by kernel_rfl) (by kernel_rfl) (fun _ _ _ h => h) (Or.inr ⟨by kernel_rfl, rfl⟩) (by assumption) ?_
              try simp only [Act.put, List.getElem_toArray, List.getElem_cons_succ, List.getElem_cons_zero, List.setIfInBounds_toArray, List.set_cons_zero, List.set_cons_succ]
              refine wpAnyH_take (i := 22) (v := undef) rfl (by kernel_rfl) (by kernel_rfl) (by kernel_rfl) (fun _ _ _ h => h) (Or.inr ⟨by kernel_rfl, rfl⟩) (by assumption) ?_
              try simp only [Act.put, List.getElem_toArray, List.getElem_cons_succ, List.getElem_cons_zero, List.setIfInBounds_toArray, List.set_cons_zero, List.set_cons_succ]
              refine wpAnyH_take (i := 23) (v := undef) rfl (by kernel_rfl) (by kernel_rfl) (by kernel_rfl) (fun _ _ _ h => h) (Or.inr ⟨by kernel_rfl, rfl⟩) (by assumption) ?_
              try simp only [Act.put, List.getElem_toArray, List.getElem_cons_succ, List.getElem_cons_zero, List.setIfInBounds_toArray, List.set_cons_zero, List.set_cons_succ]
              refine wpAnyH_take (i := 24) (v := undef) rfl (by kernel_rfl) (by kernel_rfl) (by kernel_rfl) (fun _ _ _ h => h) (Or.inr ⟨by kernel_rfl, rfl⟩) (by assumption) ?_
              try simp only [Act.put, List.getElem_toArray, List.getElem_cons_succ, List.getElem_cons_zero, List.setIfInBounds_toArray, List.set_cons_zero, List.set_cons_succ]
              refine wpAnyH_take (i := 25) (v := undef) rfl (by kernel_rfl) (by kernel_rfl) (by kernel_rfl) (fun _ _ _ h => h) (Or.inr ⟨by kernel_rfl, rfl⟩) (by assumption) ?_
              try simp only [Act.put, List.getElem_toArray, List.getElem_cons_succ, List.getElem_cons_zero, List.setIfInBounds_toArray, List.set_cons_zero, List.set_cons_succ]
              refine wpAnyH_take (i := 26) (v := undef) rfl (by kernel_rfl) (by kernel_rfl) (by kernel_rfl) (fun _ _ _ h => h) (Or.inr ⟨by kernel_rfl, rfl⟩) (by assumption) ?_
              try simp only [Act.put, List.getElem_toArray, List.getElem_cons_succ, List.getElem_cons_zero, List.setIfInBounds_toArray, List.set_cons_zero, List.set_cons_succ]
              refine wpAnyH_take (i := 27) (v := undef) rfl (by kernel_rfl) (by kernel_rfl) (by kernel_rfl) (fun _ _ _ h => h) (Or.inr ⟨by kernel_rfl, rfl⟩) (by assumption) ?_
              try simp only [Act.put, List.getElem_toArray, List.getElem_cons_succ, List.getElem_cons_zero, List.setIfInBounds_toArray, List.set_cons_zero, List.set_cons_succ]
              refine wpAnyH_take (i := 28) (v := undef) rfl (by kernel_rfl) (by kernel_rfl) (by kernel_rfl) (fun _ _ _ h => h) (Or.inr ⟨by kernel_rfl, rfl⟩) (by assumption) ?_
              try simp only [Act.put, List.getElem_toArray, List.getElem_cons_succ, List.getElem_cons_zero, List.setIfInBounds_toArray, List.set_cons_zero, List.set_cons_succ]
              refine wpAnyH_take (i := 29) (v := undef) rfl (by kernel_rfl) (by kernel_rfl) (by kernel_rfl) (fun _ _ _ h => h) (Or.inr ⟨by kernel_rfl, rfl⟩) (by assumption) ?_
              try simp only [Act.put, List.getElem_toArray, List.getElem_cons_succ, List.getElem_cons_zero, List.setIfInBounds_toArray, List.set_cons_zero, List.set_cons_succ]
              refine wpAnyH_take (i := 30) (v := undef) rfl (by kernel_rfl) (by kernel_rfl) (by kernel_rfl) (fun _ _ _ h => h) (Or.inr ⟨by kernel_rfl, rfl⟩) (by assumption) ?_
              try simp only [Act.put, List.getElem_toArray, List.getElem_cons_succ, List.getElem_cons_zero, List.setIfInBounds_toArray, List.set_cons_zero, List.set_cons_succ]
              refine wpAnyH_take (i := 31) (v := ?_) rfl (by kernel_rfl) (by kernel_rfl) (by kernel_rfl) (fun _ _ _ h => h) (Or.inl ⟨by kernel_rfl, ?_⟩) (by assumption) ?_
              rotate_left
              · (intro w hSw; go_simp; try with_reducible rfl)
              try simp only [Act.put, List.getElem_toArray, List.getElem_cons_succ, List.getElem_cons_zero, List.setIfInBounds_toArray, List.set_cons_zero, List.set_cons_succ]
              refine wpAnyH_take (i := 32) (v := ?_) rfl (by kernel_rfl) (by kernel_rfl) (by kernel_rfl) (fun _ _ _ h => h) (Or.inl ⟨by kernel_rfl, ?_⟩) (by assumption) ?_
              rotate_left
              · (intro w hSw; go_simp; try with_reducible rfl)
              try simp only [Act.put, List.getElem_toArray, List.getElem_cons_succ, List.getElem_cons_zero, List.setIfInBounds_toArray, List.set_cons_zero, List.set_cons_succ]
              refine wpAnyH_take (i := 33) (v := ?_) rfl (by kernel_rfl) (by kernel_rfl) (by kernel_rfl) (fun _ _ _ h => h) (Or.inl ⟨by kernel_rfl, ?_⟩) (by assumption) ?_
              rotate_left
              · (intro w hSw; go_simp; try with_reducible rfl)
              try simp only [Act.put, List.getElem_toArray, List.getElem_cons_succ, List.getElem_cons_zero, List.setIfInBounds_toArray, List.set_cons_zero, List.set_cons_succ]
              refine wpAnyH_take (i := 34) (v := ?_) rfl (by kernel_rfl) (by kernel_rfl) (by kernel_rfl) (fun _ _ _ h => h) (Or.inl ⟨by kernel_rfl, ?_⟩) (by assumption) ?_
              rotate_left
              · (intro w hSw; go_simp; try with_reducible rfl)
              try simp only [Act.put, List.getElem_toArray, List.getElem_cons_succ, List.getElem_cons_zero, List.setIfInBounds_toArray, List.set_cons_zero, List.set_cons_succ]
              refine wpAnyH_take (i := 35) (v := ?_) rfl (by kernel_rfl) (by kernel_rfl) (by kernel_rfl) (fun _ _ _ h => h) (Or.inl ⟨by kernel_rfl, ?_⟩) (by assumption) ?_
              rotate_left
              · (intro w hSw; go_simp; try with_reducible rfl)
              try simp only [Act.put, List.getElem_toArray, List.getElem_cons_succ, List.getElem_cons_zero, List.setIfInBounds_toArray, List.set_cons_zero, List.set_cons_succ]
              refine wpAnyH_take (i := 36) (v := ?_) rfl (by kernel_rfl) (by kernel_rfl) (by kernel_rfl) (fun _ _ _ h => h) (Or.inl ⟨by kernel_rfl, ?_⟩) (by assumption) ?_
              rotate_left
              · (intro w hSw; go_simp; try with_reducible rfl)
              try simp only [Act.put, List.getElem_toArray, List.getElem_cons_succ, List.getElem_cons_zero, List.setIfInBounds_toArray, List.set_cons_zero, List.set_cons_succ]
              refine wpAnyH_take (i := 37) (v := ?_) rfl (by kernel_rfl) (by kernel_rfl) (by kernel_rfl) (fun _ _ _ h => h) (Or.inl ⟨by kernel_rfl, ?_⟩) (by assumption) ?_
              rotate_left
              · (intro w hSw; go_simp; try with_reducible rfl)
              try simp only [Act.put, List.getElem_toArray, List.getElem_cons_succ, List.getElem_cons_zero, List.setIfInBounds_toArray, List.set_cons_zero, List.set_cons_succ]
              refine wpAnyH_take (i := 38) (v := ?_) rfl (by kernel_rfl) (by kernel_rfl) (by kernel_rfl) (fun _ _ _ h => h) (Or.inl ⟨by kernel_rfl, ?_⟩) (by assumption) ?_
              rotate_left
              · (intro w hSw; go_simp; try with_reducible rfl)
              try simp only [Act.put, List.getElem_toArray, List.getElem_cons_succ, List.getElem_cons_zero, List.setIfInBounds_toArray, List.set_cons_zero, List.set_cons_succ]
              refine wpAnyH_done (by kernel_rfl) ?_ _
              refine NoPanic.normal ?_
              go_wp2
              go_ret
              exact ⟨rfl, below_step B2 (by assumption)⟩
            · go_simp
              refine hK.out _ _ ?_ (fun hH => ?_)
              · (first | assumption | (apply kb_alloc; assumption) | (apply kb_alloc_drew; assumption) | (apply kb_grown; (first | exact g2 | exact g1); assumption; assumption))
              clear hK K
              try simp only [Act.put, List.getElem_toArray, List.getElem_cons_succ, List.getElem_cons_zero, List.setIfInBounds_toArray, List.set_cons_zero, List.set_cons_succ]
              refine wpAnyH_ready (rs := [7]) (by kernel_rfl) (by simp) ?_
              refine AllReadyH.cons rfl (fun K hK => ?_) AllReadyH.nil
              apply step_app (s := .tmp 43) (x := .tmp 44) (t := 23) (base := w2.heap.size) (e := 3) (i := i0) (ht := Try.underlying23) (hi := hi0) (hz := hz0) (hsize := hz1) (hby := hz2) (l1 := []) (l2 := []) (n2 := 0)
              case hw => rfl
              case ho => rfl
              case hs => rfl
              case hx => rfl
              case hown => (refine own_block (l := []) ?_ ?_ rfl ?_; (first | exact heap_alloc_new w2 _ | exact heapN1 w2 _ _ | exact heapN2 w2 _ _); (first | omega | simp); (simp))
              case hr => exact .inl rfl
              case hn => rfl
              case hc => (intro h; exact ⟨rfl, (hnil0 h).2⟩)
              case hl => (simp)
              case hbase => (first | omega | (simp; done) | (simp; omega))
              intro A1 c1 v1 o1 g1 q1
              refine hK.out _ _ ?_ (fun hH => ?_)
              · (first | assumption | (apply kb_alloc; assumption) | (apply kb_alloc_drew; assumption) | (apply kb_grown; (first | exact g2 | exact g1); assumption; assumption))
              clear hK K
              try simp only [Act.put, List.getElem_toArray, List.getElem_cons_succ, List.getElem_cons_zero, List.setIfInBounds_toArray, List.set_cons_zero, List.set_cons_succ]
              refine wpAnyH_ready (rs := [9]) (by kernel_rfl) (by simp) ?_
              refine AllReadyH.cons rfl (fun K hK => ?_) AllReadyH.nil
              apply step_app (s := .tmp 45) (x := .tmp 46) (t := 23) (base := w2.heap.size) (e := 3) (i := i0) (ht := Try.underlying23) (hi := hi0) (hz := hz0) (hsize := hz1) (hby := hz2) (l1 := ([] ++ [])) (l2 := [7]) (n2 := 1)
              case hw => rfl
              case ho => rfl
              case hs => rfl
              case hx => rfl
              case hown => (first | exact o1 | exact o1.alloc _)
              case hr => (refine il_block ?_; first | exact heap_alloc_new v1 _ | (refine (g1.block _ ?_ ?_).trans ?_; (simp <;> omega); (change some _ ≠ some _; simp); (first | exact heap_alloc_new w2 _ | exact heapN1 w2 _ _ | exact heapN2 w2 _ _)))
              case hn => rfl
              case hc => (intro h; cases h)
              case hl => (simp)
              case hbase => (have h1 := g1.size; simp at h1 ⊢; omega)
              intro A2 c2 v2 o2 g2 q2
              refine hK.out _ _ ?_ (fun hH => ?_)
              · (first | assumption | (apply kb_alloc; assumption) | (apply kb_alloc_drew; assumption) | (apply kb_grown; (first | exact g2 | exact g1); assumption; assumption))
              clear hK K
              try simp only [Act.put, List.getElem_toArray, List.getElem_cons_succ, List.getElem_cons_zero, List.setIfInBounds_toArray, List.set_cons_zero, List.set_cons_succ]
              refine wpAnyH_ready (rs := [10]) (by kernel_rfl) (by simp) ?_
              refine AllReadyH.cons rfl (fun K hK => ?_) AllReadyH.nil
              go_simp
              refine (implValid_n _ _ _ false _ ⟨[] ++ [] ++ [7], ?_, ?_, (IL.of_own o2).1, H7.out⟩).mono ?_
              · simp
              · simp
              rintro e w' ⟨rfl, rfl⟩
              refine hK.out _ _ ?_ (fun hH => ?_)
              · (first | assumption | (apply kb_alloc; assumption) | (apply kb_alloc_drew; assumption) | (apply kb_grown; (first | exact g2 | exact g1); assumption; assumption))
              clear hK K
              try simp only [Act.put, List.getElem_toArray, List.getElem_cons_succ, List.getElem_cons_zero, List.setIfInBounds_toArray, List.set_cons_zero, List.set_cons_succ]
              refine wpAnyH_take (i := 11) (v := ?_) rfl (by kernel_rfl) (by kernel_rfl) (by kernel_rfl) (fun _ _ _ h => h) (Or.inl ⟨by rfl, ?_⟩) (by assumption) ?_
              rotate_left
              · (intro w hSw; go_simp; try with_reducible rfl)
              try simp only [Act.put, List.getElem_toArray, List.getElem_cons_succ, List.getElem_cons_zero, List.setIfInBounds_toArray, List.set_cons_zero, List.set_cons_succ]
              refine wpAnyH_take (i := 12) (v := ?_) rfl (by kernel_rfl) (by kernel_rfl) (by kernel_rfl) (fun _ _ _ h => h) (Or.inl ⟨by rfl, ?_⟩) (by assumption) ?_
              rotate_left
              · (intro w hSw; go_simp; try with_reducible rfl)
              try simp only [Act.put, List.getElem_toArray, List.getElem_cons_succ, List.getElem_cons_zero, List.setIfInBounds_toArray, List.set_cons_zero, List.set_cons_succ]
              refine wpAnyH_take (i := 13) (v := ?_) rfl (by kernel_rfl) (by kernel_rfl) (by kernel_rfl) (fun _ _ _ h => h) (Or.inl ⟨by rfl, ?_⟩) (by assumption) ?_
              rotate_left
              · (intro w hSw; go_simp; try with_reducible rfl)
              try simp only [Act.put, List.getElem_toArray, List.getElem_cons_succ, List.getElem_cons_zero, List.setIfInBounds_toArray, List.set_cons_zero, List.set_cons_succ]
              refine wpAnyH_take (i := 14) (v := ?_) rfl (by kernel_rfl) (by kernel_rfl) (by kernel_rfl) (fun _ _ _ h => h) (Or.inl ⟨by rfl, ?_⟩) (by assumption) ?_
              rotate_left
              · (intro w hSw; go_simp; try with_reducible rfl)
              try simp only [Act.put, List.getElem_toArray, List.getElem_cons_succ, List.getElem_cons_zero, List.setIfInBounds_toArray, List.set_cons_zero, List.set_cons_succ]
              refine wpAnyH_take (i := 15) (v := ?_) rfl (by kernel_rfl) (by kernel_rfl) (by kernel_rfl) (fun _ _ _ h => h) (Or.inl ⟨by rfl, ?_⟩) (by assumption) ?_
              rotate_left
              · (intro w hSw; go_simp; try with_reducible rfl)
              try simp only [Act.put, List.getElem_toArray, List.getElem_cons_succ, List.getElem_cons_zero, List.setIfInBounds_toArray, List.set_cons_zero, List.set_cons_succ]
              refine wpAnyH_take (i := 16) (v := ?_) rfl (by kernel_rfl) (by kernel_rfl) (by kernel_rfl) (fun _ _ _ h => h) (Or.inl ⟨by rfl, ?_⟩) (by assumption) ?_
              rotate_left
              · (intro w hSw; go_simp; try with_reducible rfl)
              try simp only [Act.put, List.getElem_toArray, List.getElem_cons_succ, List.getElem_cons_zero, List.setIfInBounds_toArray, List.set_cons_zero, List.set_cons_succ]
              refine wpAnyH_take (i := 17) (v := ?_) rfl (by kernel_rfl) (by kernel_rfl) (by kernel_rfl) (fun _ _ _ h => h) (Or.inl ⟨by rfl, ?_⟩) (by assumption) ?_
              rotate_left
              · (intro w hSw; go_simp; try with_reducible rfl)
              try simp only [Act.put, List.getElem_toArray, List.getElem_cons_succ, List.getElem_cons_zero, List.setIfInBounds_toArray, List.set_cons_zero, List.set_cons_succ]
              refine wpAnyH_take (i := 18) (v := undef) rfl (by kernel_rfl) (by kernel_rfl) (by kernel_rfl) (fun _ _ _ h => h) (Or.inr ⟨by kernel_rfl, rfl⟩) (by assumption) ?_
              try simp only [Act.put, List.getElem_toArray, List.getElem_cons_succ, List.getElem_cons_zero, List.setIfInBounds_toArray, List.set_cons_zero, List.set_cons_succ]
              refine wpAnyH_take (i := 19) (v := undef) rfl (by kernel_rfl) (by kernel_rfl) (by kernel_rfl) (fun _ _ _ h => h) (Or.inr ⟨by kernel_rfl, rfl⟩) (by assumption) ?_
              try simp only [Act.put, List.getElem_toArray, List.getElem_cons_succ, List.getElem_cons_zero, List.setIfInBounds_toArray, List.set_cons_zero, List.set_cons_succ]
              refine wpAnyH_take (i := 20) (v := undef) rfl (by kernel_rfl) (by kernel_rfl) (by kernel_rfl) (fun _ _ _ h => h) (Or.inr ⟨by kernel_rfl, rfl⟩) (by assumption) ?_
              try simp only [Act.put, List.getElem_toArray, List.getElem_cons_succ, List.getElem_cons_zero, List.setIfInBounds_toArray, List.set_cons_zero, List.set_cons_succ]
              refine wpAnyH_take (i := 21) (v := undef) rfl (by kernel_rfl) (by kernel_rfl) (by kernel_rfl) (fun _ _ _ h => h) (Or.inr ⟨by kernel_rfl, rfl⟩) (by assumption) ?_
              try simp only [Act.put, List.getElem_toArray, List.getElem_cons_succ, List.getElem_cons_zero, List.setIfInBounds_toArray, List.set_cons_zero, List.set_cons_succ]
              refine wpAnyH_take (i := 22) (v := undef) rfl (by kernel_rfl) (by kernel_rfl) (by kernel_rfl) (fun _ _ _ h => h) (Or.inr ⟨by kernel_rfl, rfl⟩) (by assumption) ?_
              try simp only [Act.put, List.getElem_toArray, List.getElem_cons_succ, List.getElem_cons_zero, List.setIfInBounds_toArray, List.set_cons_zero, List.set_cons_succ]
              refine wpAnyH_take (i := 23) (v := undef) rfl (by kernel_rfl) (by kernel_rfl) (by kernel_rfl) (fun _ _ _ h => h) (Or.inr ⟨by kernel_rfl, rfl⟩) (by assumption) ?_
              try simp only [Act.put, List.getElem_toArray, List.getElem_cons_succ, List.getElem_cons_zero, List.setIfInBounds_toArray, List.set_cons_zero, List.set_cons_succ]
              refine wpAnyH_take (i := 24) (v := undef) rfl (by kernel_rfl) (by kernel_rfl) (by kernel_rfl) (fun _ _ _ h => h) (Or.inr ⟨by kernel_rfl, rfl⟩) (by assumption) ?_
              try simp only [Act.put, List.getElem_toArray, List.getElem_cons_succ, List.getElem_cons_zero, List.setIfInBounds_toArray, List.set_cons_zero, List.set_cons_succ]
              refine wpAnyH_take (i := 25) (v := undef) rfl (by kernel_rfl) (by kernel_rfl) (by kernel_rfl) (fun _ _ _ h => h) (Or.inr ⟨by kernel_rfl, rfl⟩) (by assumption) ?_
              try simp only [Act.put, List.getElem_toArray, List.getElem_cons_succ, List.getElem_cons_zero, List.setIfInBounds_toArray, List.set_cons_zero, List.set_cons_succ]
              refine wpAnyH_take (i := 26) (v := undef) rfl (by kernel_rfl) (by kernel_rfl) (by kernel_rfl) (fun _ _ _ h => h) (Or.inr ⟨by kernel_rfl, rfl⟩) (by assumption) ?_
              try simp only [Act.put, List.getElem_toArray, List.getElem_cons_succ, List.getElem_cons_zero, List.setIfInBounds_toArray, List.set_cons_zero, List.set_cons_succ]
              refine wpAnyH_take (i := 27) (v := undef) rfl (by kernel_rfl) (by kernel_rfl) (by kernel_rfl) (fun _ _ _ h => h) (Or.inr ⟨by kernel_rfl, rfl⟩) (by assumption) ?_
              try simp only [Act.put, List.getElem_toArray, List.getElem_cons_succ, List.getElem_cons_zero, List.setIfInBounds_toArray, List.set_cons_zero, List.set_cons_succ]
              refine wpAnyH_take (i := 28) (v := undef) rfl (by kernel_rfl) (by kernel_rfl) (by kernel_rfl) (fun _ _ _ h => h) (Or.inr ⟨by kernel_rfl, rfl⟩) (by assumption) ?_
              try simp only [Act.put, List.getElem_toArray, List.getElem_cons_succ, List.getElem_cons_zero, List.setIfInBounds_toArray, List.set_cons_zero, List.set_cons_succ]
              refine wpAnyH_take (i := 29) (v := undef) rfl (by kernel_rfl) (by kernel_rfl) (by kernel_rfl) (fun _ _ _ h => h) (Or.inr ⟨by kernel_rfl, rfl⟩) (by assumption) ?_
              try simp only [Act.put, List.getElem_toArray, List.getElem_cons_succ, List.getElem_cons_zero, List.setIfInBounds_toArray, List.set_cons_zero, List.set_cons_succ]
              refine wpAnyH_take (i := 30) (v := undef) rfl (by kernel_rfl) (by kernel_rfl) (by kernel_rfl) (fun _ _ _ h => h) (Or.inr ⟨by kernel_rfl, rfl⟩) (by assumption) ?_
              try simp only [Act.put, List.getElem_toArray, List.getElem_cons_succ, List.getElem_cons_zero, List.setIfInBounds_toArray, List.set_cons_zero, List.set_cons_succ]
              refine wpAnyH_take (i := 31) (v := ?_) rfl (by kernel_rfl) (by kernel_rfl) (by kernel_rfl) (fun _ _ _ h => h) (Or.inl ⟨by kernel_rfl, ?_⟩) (by assumption) ?_
              rotate_left
              · (intro w hSw; go_simp; try with_reducible rfl)
              try simp only [Act.put, List.getElem_toArray, List.getElem_cons_succ, List.getElem_cons_zero, List.setIfInBounds_toArray, List.set_cons_zero, List.set_cons_succ]
              refine wpAnyH_take (i := 32) (v := ?_) rfl (by kernel_rfl) (by kernel_rfl) (by kernel_rfl) (fun _ _ _ h => h) (Or.inl ⟨by kernel_rfl, ?_⟩) (by assumption) ?_
              rotate_left
              · (intro w hSw; go_simp; try with_reducible rfl)
              try simp only [Act.put, List.getElem_toArray, List.getElem_cons_succ, List.getElem_cons_zero, List.setIfInBounds_toArray, List.set_cons_zero, List.set_cons_succ]
              refine wpAnyH_take (i := 33) (v := ?_) rfl (by kernel_rfl) (by kernel_rfl) (by kernel_rfl) (fun _ _ _ h => h) (Or.inl ⟨by kernel_rfl, ?_⟩) (by assumption) ?_
              rotate_left
              · (intro w hSw; go_simp; try with_reducible rfl)
              try simp only [Act.put, List.getElem_toArray, List.getElem_cons_succ, List.getElem_cons_zero, List.setIfInBounds_toArray, List.set_cons_zero, List.set_cons_succ]
              refine wpAnyH_take (i := 34) (v := ?_) rfl (by kernel_rfl) (by kernel_rfl) (by kernel_rfl) (fun _ _ _ h => h) (Or.inl ⟨by kernel_rfl, ?_⟩) (by assumption) ?_
              rotate_left
              · (intro w hSw; go_simp; try with_reducible rfl)
              try simp only [Act.put, List.getElem_toArray, List.getElem_cons_succ, List.getElem_cons_zero, List.setIfInBounds_toArray, List.set_cons_zero, List.set_cons_succ]
              refine wpAnyH_take (i := 35) (v := ?_) rfl (by kernel_rfl) (by kernel_rfl) (by kernel_rfl) (fun _ _ _ h => h) (Or.inl ⟨by kernel_rfl, ?_⟩) (by assumption) ?_
              rotate_left
              · (intro w hSw; go_simp; try with_reducible rfl)
              try simp only [Act.put, List.getElem_toArray, List.getElem_cons_succ, List.getElem_cons_zero, List.setIfInBounds_toArray, List.set_cons_zero, List.set_cons_succ]
              refine wpAnyH_take (i := 36) (v := ?_) rfl (by kernel_rfl) (by kernel_rfl) (by kernel_rfl) (fun _ _ _ h => h) (Or.inl ⟨by kernel_rfl, ?_⟩) (by assumption) ?_
              rotate_left
              · (intro w hSw; go_simp; try with_reducible rfl)
              try simp only [Act.put, List.getElem_toArray, List.getElem_cons_succ, List.getElem_cons_zero, List.setIfInBounds_toArray, List.set_cons_zero, List.set_cons_succ]
              refine wpAnyH_take (i := 37) (v := ?_) rfl (by kernel_rfl) (by kernel_rfl) (by kernel_rfl) (fun _ _ _ h => h) (Or.inl ⟨by kernel_rfl, ?_⟩) (by assumption) ?_
              rotate_left
              · (intro w hSw; go_simp; try with_reducible rfl)
              try simp only [Act.put, List.getElem_toArray, List.getElem_cons_succ, List.getElem_cons_zero, List.setIfInBounds_toArray, List.set_cons_zero, List.set_cons_succ]
              refine wpAnyH_take (i := 38) (v := ?_) rfl (by kernel_rfl) (by kernel_rfl) (by kernel_rfl) (fun _ _ _ h => h) (Or.inl ⟨by kernel_rfl, ?_⟩) (by assumption) ?_
              rotate_left
              · (intro w hSw; go_simp; try with_reducible rfl)
              try simp only [Act.put, List.getElem_toArray, List.getElem_cons_succ, List.getElem_cons_zero, List.setIfInBounds_toArray, List.set_cons_zero, List.set_cons_succ]
              refine wpAnyH_done (by kernel_rfl) ?_ _
              refine NoPanic.normal ?_
              go_wp2
              go_ret
              exact ⟨rfl, below_step B2 (by assumption)⟩
          · go_simp
            refine hK.out _ _ ?_ (fun hH => ?_)
            · (first | assumption | (apply kb_alloc; assumption) | (apply kb_alloc_drew; assumption) | (apply kb_grown; (first | exact g2 | exact g1); assumption; assumption))
            clear hK K
            try simp only [Act.put, List.getElem_toArray, List.getElem_cons_succ, List.getElem_cons_zero, List.setIfInBounds_toArray, List.set_cons_zero, List.set_cons_succ]
            refine wpAnyH_ready (rs := [5]) (by kernel_rfl) (by simp) ?_
            refine AllReadyH.cons rfl (fun K hK => ?_) AllReadyH.nil
            go_simp
            refine hK.out _ _ ?_ (fun hH => ?_)
            · (first | assumption | (apply kb_alloc; assumption) | (apply kb_alloc_drew; assumption) | (apply kb_grown; (first | exact g2 | exact g1); assumption; assumption))
            clear hK K
            try simp only [Act.put, List.getElem_toArray, List.getElem_cons_succ, List.getElem_cons_zero, List.setIfInBounds_toArray, List.set_cons_zero, List.set_cons_succ]
            refine wpAnyH_ready (rs := [7]) (by kernel_rfl) (by simp) ?_
            refine AllReadyH.cons rfl (fun K hK => ?_) AllReadyH.nil
            apply step_app (s := .tmp 43) (x := .tmp 44) (t := 23) (base := w2.heap.size) (e := 3) (i := i0) (ht := Try.underlying23) (hi := hi0) (hz := hz0) (hsize := hz1) (hby := hz2) (l1 := []) (l2 := []) (n2 := 0)
            case hw => rfl
            case ho => rfl
            case hs => rfl
            case hx => rfl
            case hown => (refine own_block (l := []) ?_ ?_ rfl ?_; (first | exact heap_alloc_new w2 _ | exact heapN1 w2 _ _ | exact heapN2 w2 _ _); (first | omega | simp); (simp))
            case hr => exact .inl rfl
            case hn => rfl
            case hc => (intro h; exact ⟨rfl, (hnil0 h).2⟩)
            case hl => (simp)
            case hbase => (first | omega | (simp; done) | (simp; omega))
            intro A1 c1 v1 o1 g1 q1
            refine hK.out _ _ ?_ (fun hH => ?_)
            · (first | assumption | (apply kb_alloc; assumption) | (apply kb_alloc_drew; assumption) | (apply kb_grown; (first | exact g2 | exact g1); assumption; assumption))
            clear hK K
            try simp only [Act.put, List.getElem_toArray, List.getElem_cons_succ, List.getElem_cons_zero, List.setIfInBounds_toArray, List.set_cons_zero, List.set_cons_succ]
            refine wpAnyH_ready (rs := [9]) (by kernel_rfl) (by simp) ?_
            refine AllReadyH.cons rfl (fun K hK => ?_) AllReadyH.nil
            apply step_app (s := .tmp 45) (x := .tmp 46) (t := 23) (base := w2.heap.size) (e := 3) (i := i0) (ht := Try.underlying23) (hi := hi0) (hz := hz0) (hsize := hz1) (hby := hz2) (l1 := ([] ++ [])) (l2 := [7]) (n2 := 1)
            case hw => rfl
            case ho => rfl
            case hs => rfl
            case hx => rfl
            case hown => (first | exact o1 | exact o1.alloc _)
            case hr => (refine il_block ?_; first | exact heap_alloc_new v1 _ | (refine (g1.block _ ?_ ?_).trans ?_; (simp <;> omega); (change some _ ≠ some _; simp); (first | exact heap_alloc_new w2 _ | exact heapN1 w2 _ _ | exact heapN2 w2 _ _)))
            case hn => rfl
            case hc => (intro h; cases h)
            case hl => (simp)
            case hbase => (have h1 := g1.size; simp at h1 ⊢; omega)
            intro A2 c2 v2 o2 g2 q2
            refine hK.out _ _ ?_ (fun hH => ?_)
            · (first | assumption | (apply kb_alloc; assumption) | (apply kb_alloc_drew; assumption) | (apply kb_grown; (first | exact g2 | exact g1); assumption; assumption))
            clear hK K
            try simp only [Act.put, List.getElem_toArray, List.getElem_cons_succ, List.getElem_cons_zero, List.setIfInBounds_toArray, List.set_cons_zero, List.set_cons_succ]
            refine wpAnyH_ready (rs := [10]) (by kernel_rfl) (by simp) ?_
            refine AllReadyH.cons rfl (fun K hK => ?_) AllReadyH.nil
            go_simp
            refine (implValid_n _ _ _ false _ ⟨[] ++ [] ++ [7], ?_, ?_, (IL.of_own o2).1, H7.out⟩).mono ?_
            · simp
            · simp
            rintro e w' ⟨rfl, rfl⟩
            refine hK.out _ _ ?_ (fun hH => ?_)
            · (first | assumption | (apply kb_alloc; assumption) | (apply kb_alloc_drew; assumption) | (apply kb_grown; (first | exact g2 | exact g1); assumption; assumption))
            clear hK K
            try simp only [Act.put, List.getElem_toArray, List.getElem_cons_succ, List.getElem_cons_zero, List.setIfInBounds_toArray, List.set_cons_zero, List.set_cons_succ]
            refine wpAnyH_take (i := 11) (v := ?_) rfl (by kernel_rfl) (by kernel_rfl) (by kernel_rfl) (fun _ _ _ h => h) (Or.inl ⟨by rfl, ?_⟩) (by assumption) ?_
            rotate_left
            · (intro w hSw; go_simp; try with_reducible rfl)
            try simp only [Act.put, List.getElem_toArray, List.getElem_cons_succ, List.getElem_cons_zero, List.setIfInBounds_toArray, List.set_cons_zero, List.set_cons_succ]
            refine wpAnyH_take (i := 12) (v := ?_) rfl (by kernel_rfl) (by kernel_rfl) (by kernel_rfl) (fun _ _ _ h => h) (Or.inl ⟨by rfl, ?_⟩) (by assumption) ?_
            rotate_left
            · (intro w hSw; go_simp; try with_reducible rfl)
            try simp only [Act.put, List.getElem_toArray, List.getElem_cons_succ, List.getElem_cons_zero, List.setIfInBounds_toArray, List.set_cons_zero, List.set_cons_succ]
            refine wpAnyH_take (i := 13) (v := ?_) rfl (by kernel_rfl) (by kernel_rfl) (by kernel_rfl) (fun _ _ _ h => h) (Or.inl ⟨by rfl, ?_⟩) (by assumption) ?_
            rotate_left
            · (intro w hSw; go_simp; try with_reducible rfl)
            try simp only [Act.put, List.getElem_toArray, List.getElem_cons_succ, List.getElem_cons_zero, List.setIfInBounds_toArray, List.set_cons_zero, List.set_cons_succ]
            refine wpAnyH_take (i := 14) (v := ?_) rfl (by kernel_rfl) (by kernel_rfl) (by kernel_rfl) (fun _ _ _ h => h) (Or.inl ⟨by rfl, ?_⟩) (by assumption) ?_
            rotate_left
            · (intro w hSw; go_simp; try with_reducible rfl)
            try simp only [Act.put, List.getElem_toArray, List.getElem_cons_succ, List.getElem_cons_zero, List.setIfInBounds_toArray, List.set_cons_zero, List.set_cons_succ]
            refine wpAnyH_take (i := 15) (v := ?_) rfl (by kernel_rfl) (by kernel_rfl) (by kernel_rfl) (fun _ _ _ h => h) (Or.inl ⟨by rfl, ?_⟩) (by assumption) ?_
            rotate_left
            · (intro w hSw; go_simp; try with_reducible rfl)
            try simp only [Act.put, List.getElem_toArray, List.getElem_cons_succ, List.getElem_cons_zero, List.setIfInBounds_toArray, List.set_cons_zero, List.set_cons_succ]
            refine wpAnyH_take (i := 16) (v := ?_) rfl (by kernel_rfl) (by kernel_rfl) (by kernel_rfl) (fun _ _ _ h => h) (Or.inl ⟨by rfl, ?_⟩) (by assumption) ?_
            rotate_left
            · (intro w hSw; go_simp; try with_reducible rfl)
            try simp only [Act.put, List.getElem_toArray, List.getElem_cons_succ, List.getElem_cons_zero, List.setIfInBounds_toArray, List.set_cons_zero, List.set_cons_succ]
            refine wpAnyH_take (i := 17) (v := ?_) rfl (by kernel_rfl) (by kernel_rfl) (by kernel_rfl) (fun _ _ _ h => h) (Or.inl ⟨by rfl, ?_⟩) (by assumption) ?_
            rotate_left
            · (intro w hSw; go_simp; try with_reducible rfl)
            try simp only [Act.put, List.getElem_toArray, List.getElem_cons_succ, List.getElem_cons_zero, List.setIfInBounds_toArray, List.set_cons_zero, List.set_cons_succ]
            refine wpAnyH_take (i := 18) (v := undef) rfl (by kernel_rfl) (by kernel_rfl) (by kernel_rfl) (fun _ _ _ h => h) (Or.inr ⟨by kernel_rfl, rfl⟩) (by assumption) ?_
            try simp only [Act.put, List.getElem_toArray, List.getElem_cons_succ, List.getElem_cons_zero, List.setIfInBounds_toArray, List.set_cons_zero, List.set_cons_succ]
            refine wpAnyH_take (i := 19) (v := undef) rfl (by kernel_rfl) (by kernel_rfl) (by kernel_rfl) (fun _ _ _ h => h) (Or.inr ⟨by kernel_rfl, rfl⟩) (by assumption) ?_
            try simp only [Act.put, List.getElem_toArray, List.getElem_cons_succ, List.getElem_cons_zero, List.setIfInBounds_toArray, List.set_cons_zero, List.set_cons_succ]
            refine wpAnyH_take (i := 20) (v := undef) rfl (by kernel_rfl) (by kernel_rfl) (by kernel_rfl) (fun _ _ _ h => h) (Or.inr ⟨by kernel_rfl, rfl⟩) (by assumption) ?_
            try simp only [Act.put, List.getElem_toArray, List.getElem_cons_succ, List.getElem_cons_zero, List.setIfInBounds_toArray, List.set_cons_zero, List.set_cons_succ]
            refine wpAnyH_take (i := 21) (v := undef) rfl (by kernel_rfl) (by kernel_rfl) (by kernel_rfl) (fun _ _ _ h => h) (Or.inr ⟨by kernel_rfl, rfl⟩) (by assumption) ?_
            try simp only [Act.put, List.getElem_toArray, List.getElem_cons_succ, List.getElem_cons_zero, List.setIfInBounds_toArray, List.set_cons_zero, List.set_cons_succ]
            refine wpAnyH_take (i := 22) (v := undef) rfl (by kernel_rfl) (by kernel_rfl) (by kernel_rfl) (fun _ _ _ h => h) (Or.inr ⟨by kernel_rfl, rfl⟩) (by assumption) ?_
            try simp only [Act.put, List.getElem_toArray, List.getElem_cons_succ, List.getElem_cons_zero, List.setIfInBounds_toArray, List.set_cons_zero, List.set_cons_succ]
            refine wpAnyH_take (i := 23) (v := undef) rfl (by kernel_rfl) (by kernel_rfl) (by kernel_rfl) (fun _ _ _ h => h) (Or.inr ⟨by kernel_rfl, rfl⟩) (by assumption) ?_
            try simp only [Act.put, List.getElem_toArray, List.getElem_cons_succ, List.getElem_cons_zero, List.setIfInBounds_toArray, List.set_cons_zero, List.set_cons_succ]
            refine wpAnyH_take (i := 24) (v := undef) rfl (by kernel_rfl) (by kernel_rfl) (by kernel_rfl) (fun _ _ _ h => h) (Or.inr ⟨by kernel_rfl, rfl⟩) (by assumption) ?_
            try simp only [Act.put, List.getElem_toArray, List.getElem_cons_succ, List.getElem_cons_zero, List.setIfInBounds_toArray, List.set_cons_zero, List.set_cons_succ]
            refine wpAnyH_take (i := 25) (v := undef) rfl (by kernel_rfl) (by kernel_rfl) (by kernel_rfl) (fun _ _ _ h => h) (Or.inr ⟨by kernel_rfl, rfl⟩) (by assumption) ?_
            try simp only [Act.put, List.getElem_toArray, List.getElem_cons_succ, List.getElem_cons_zero, List.setIfInBounds_toArray, List.set_cons_zero, List.set_cons_succ]
            refine wpAnyH_take (i := 26) (v := undef) rfl (by kernel_rfl) (by kernel_rfl) (by kernel_rfl) (fun _ _ _ h => h) (Or.inr ⟨by kernel_rfl, rfl⟩) (by assumption) ?_
            try simp only [Act.put, List.getElem_toArray, List.getElem_cons_succ, List.getElem_cons_zero, List.setIfInBounds_toArray, List.set_cons_zero, List.set_cons_succ]
            refine wpAnyH_take (i := 27) (v := undef) rfl (by kernel_rfl) (by kernel_rfl) (by kernel_rfl) (fun _ _ _ h => h) (Or.inr ⟨by kernel_rfl, rfl⟩) (by assumption) ?_
            try simp only [Act.put, List.getElem_toArray, List.getElem_cons_succ, List.getElem_cons_zero, List.setIfInBounds_toArray, List.set_cons_zero, List.set_cons_succ]
            refine wpAnyH_take (i := 28) (v := undef) rfl (by kernel_rfl) (by kernel_rfl) (by kernel_rfl) (fun _ _ _ h => h) (Or.inr ⟨by kernel_rfl, rfl⟩) (by assumption) ?_
            try simp only [Act.put, List.getElem_toArray, List.getElem_cons_succ, List.getElem_cons_zero, List.setIfInBounds_toArray, List.set_cons_zero, List.set_cons_succ]
            refine wpAnyH_take (i := 29) (v := undef) rfl (by kernel_rfl) (by kernel_rfl) (by kernel_rfl) (fun _ _ _ h => h) (Or.inr ⟨by kernel_rfl, rfl⟩) (by assumption) ?_
            try simp only [Act.put, List.getElem_toArray, List.getElem_cons_succ, List.getElem_cons_zero, List.setIfInBounds_toArray, List.set_cons_zero, List.set_cons_succ]
            refine wpAnyH_take (i := 30) (v := undef) rfl (by kernel_rfl) (by kernel_rfl) (by kernel_rfl) (fun _ _ _ h => h) (Or.inr ⟨by kernel_rfl, rfl⟩) (by assumption) ?_
            try simp only [Act.put, List.getElem_toArray, List.getElem_cons_succ, List.getElem_cons_zero, List.setIfInBounds_toArray, List.set_cons_zero, List.set_cons_succ]
            refine wpAnyH_take (i := 31) (v := ?_) rfl (by kernel_rfl) (by kernel_rfl) (by kernel_rfl) (fun _ _ _ h => h) (Or.inl ⟨by kernel_rfl, ?_⟩) (by assumption) ?_
            rotate_left
            · (intro w hSw; go_simp; try with_reducible rfl)
            try simp only [Act.put, List.getElem_toArray, List.getElem_cons_succ, List.getElem_cons_zero, List.setIfInBounds_toArray, List.set_cons_zero, List.set_cons_succ]
            refine wpAnyH_take (i := 32) (v := ?_) rfl (by kernel_rfl) (by kernel_rfl) (by kernel_rfl) (fun _ _ _ h => h) (Or.inl ⟨by kernel_rfl, ?_⟩) (by assumption) ?_
            rotate_left
            · (intro w hSw; go_simp; try with_reducible rfl)
            try simp only [Act.put, List.getElem_toArray, List.getElem_cons_succ, List.getElem_cons_zero, List.setIfInBounds_toArray, List.set_cons_zero, List.set_cons_succ]
            refine wpAnyH_take (i := 33) (v := ?_) rfl (by kernel_rfl) (by kernel_rfl) (by kernel_rfl) (fun _ _ _ h => h) (Or.inl ⟨by kernel_rfl, ?_⟩) (by assumption) ?_
            rotate_left
            · (intro w hSw; go_simp; try with_reducible rfl)
            try simp only [Act.put, List.getElem_toArray, List.getElem_cons_succ, List.getElem_cons_zero, List.setIfInBounds_toArray, List.set_cons_zero, List.set_cons_succ]
            refine wpAnyH_take (i := 34) (v := ?_) rfl (by kernel_rfl) (by kernel_rfl) (by kernel_rfl) (fun _ _ _ h => h) (Or.inl ⟨by kernel_rfl, ?_⟩) (by assumption) ?_
            rotate_left
            · (intro w hSw; go_simp; try with_reducible rfl)
            try simp only [Act.put, List.getElem_toArray, List.getElem_cons_succ, List.getElem_cons_zero, List.setIfInBounds_toArray, List.set_cons_zero, List.set_cons_succ]
            refine wpAnyH_take (i := 35) (v := ?_) rfl (by kernel_rfl) (by kernel_rfl) (by kernel_rfl) (fun _ _ _ h => h) (Or.inl ⟨by kernel_rfl, ?_⟩) (by assumption) ?_
            rotate_left
            · (intro w hSw; go_simp; try with_reducible rfl)
            try simp only [Act.put, List.getElem_toArray, List.getElem_cons_succ, List.getElem_cons_zero, List.setIfInBounds_toArray, List.set_cons_zero, List.set_cons_succ]
            refine wpAnyH_take (i := 36) (v := ?_) rfl (by kernel_rfl) (by kernel_rfl) (by kernel_rfl) (fun _ _ _ h => h) (Or.inl ⟨by kernel_rfl, ?_⟩) (by assumption) ?_
            rotate_left
            · (intro w hSw; go_simp; try with_reducible rfl)
            try simp only [Act.put, List.getElem_toArray, List.getElem_cons_succ, List.getElem_cons_zero, List.setIfInBounds_toArray, List.set_cons_zero, List.set_cons_succ]
            refine wpAnyH_take (i := 37) (v := ?_) rfl (by kernel_rfl) (by kernel_rfl) (by kernel_rfl) (fun _ _ _ h => h) (Or.inl ⟨by kernel_rfl, ?_⟩) (by assumption) ?_
            rotate_left
            · (intro w hSw; go_simp; try with_reducible rfl)
            try simp only [Act.put, List.getElem_toArray, List.getElem_cons_succ, List.getElem_cons_zero, List.setIfInBounds_toArray, List.set_cons_zero, List.set_cons_succ]
            refine wpAnyH_take (i := 38) (v := ?_) rfl (by kernel_rfl) (by kernel_rfl) (by kernel_rfl) (fun _ _ _ h => h) (Or.inl ⟨by kernel_rfl, ?_⟩) (by assumption) ?_
            rotate_left
            · (intro w hSw; go_simp; try with_reducible rfl)
            try simp only [Act.put, List.getElem_toArray, List.getElem_cons_succ, List.getElem_cons_zero, List.setIfInBounds_toArray, List.set_cons_zero, List.set_cons_succ]
            refine wpAnyH_done (by kernel_rfl) ?_ _
            refine NoPanic.normal ?_
            go_wp2
            go_ret
            exact ⟨rfl, below_step B2 (by assumption)⟩
        · obtain ⟨j, hj⟩ : ∃ j, s.length = j + 1 := ⟨s.length - 1, by omega⟩
          obtain ⟨b, off, x, rfl, hx, hcx⟩ := is.at_ (k := j) (by omega)
          have hb : b < w2.heap.size := World.block_lt_of_cell? w2 _ hcx
          have HA := Lib.hid (vld_again HV.out hj hx)
          clear hx
          have hz : ((s.length : Int) == 0) = false := beq_eq_false_iff_ne.2 (by omega)
          have HJ := Lib.hid hj
          obtain ⟨N, hN⟩ : ∃ N, N = s.length := ⟨_, rfl⟩
          rw [← hN] at hz hs6 hj hkl h0 hcs ⊢
          have HN := Lib.hid hN
          have hn1 : N ≤ s.length := by omega
          have hn2 : s.length ≤ N := by omega
          clear hN
          have e1 : IntKind.i64.wrap ((N : Int) - 1) = (j : Int) := by rw [IntWalk.i64_in _ (by omega)]; omega
          have j0 : (0 : Int) ≤ (j : Int) := by omega
          have j1 : (j : Int) < (N : Int) := by omega
          have n6 : decide ((N : Int) ≤ 6) = true := by simp; omega
          clear hj
          go_region_held3 (fun w' => Below w2.heap.size w2 w' ∧ w'.cell? ⟨b, off + j, none⟩ = some (.int .i64 x))
            (first | exact ⟨(Below.refl _ _).drew, hcx⟩ | assumption | (apply ks_alloc hb; assumption) | (apply ks_alloc_drew hb; assumption) | (apply ks_grown2 hb; (first | exact g4 | exact g3 | exact g2 | exact g1); assumption; assumption))
            (first
              | (go_at_call 6; have _ := o4; refine (implValid_n _ _ _ false _ ⟨[] ++ s ++ [x], ?_, ?_, (IL.of_own o4).1, HA.out⟩).mono ?_; (simp only [List.nil_append, List.length_append, List.length_cons, List.length_nil] <;> omega); (simp only [List.nil_append, List.length_append, List.length_cons, List.length_nil]; omega); rintro e w' ⟨rfl, rfl⟩)
              | (go_at_call 6; have _ := o2; refine (implValid_n _ _ _ false _ ⟨[] ++ s ++ [7], ?_, ?_, (IL.of_own o2).1, H7.out⟩).mono ?_; (simp only [List.nil_append, List.length_append, List.length_cons, List.length_nil] <;> omega); (simp only [List.nil_append, List.length_append, List.length_cons, List.length_nil]; omega); rintro e w' ⟨rfl, rfl⟩)
              | (go_at_call 6; refine (implValid_n _ _ _ true _ ⟨s.take k, ?_, ?_, IL.take (is.below ?_) k, HT.out⟩).mono ?_; (simp only [List.length_take]; omega); (simp only [List.length_take]; omega); (apply bel_of; assumption); rintro e w' ⟨rfl, rfl⟩)
              | (apply step_app (s := .tmp 43) (x := .tmp 44) (t := 23) (base := w2.heap.size) (e := 3) (i := i0) (ht := Try.underlying23) (hi := hi0) (hz := hz0) (hsize := hz1) (hby := hz2) (l1 := []) (l2 := s) (n2 := N); (case hw => rfl); (case ho => rfl); (case hs => rfl); (case hx => rfl); (case hown => (refine own_block (l := []) ?_ ?_ rfl ?_; (first | exact heap_alloc_new w2 _ | exact heapN1 w2 _ _ | exact heapN2 w2 _ _); (first | omega | simp); (simp))); (case hr => (refine is.below ?_; apply bel_of; assumption)); (case hn => exact HN.out); (case hc => (intro h; cases h)); (case hl => (simp; omega)); (case hbase => (first | omega | (simp; done) | (simp; omega))); intro A1 c1 v1 o1 g1 q1)
              | (apply step_app (s := .tmp 45) (x := .tmp 46) (t := 23) (base := w2.heap.size) (e := 3) (i := i0) (ht := Try.underlying23) (hi := hi0) (hz := hz0) (hsize := hz1) (hby := hz2) (l1 := ([] ++ s)) (l2 := [7]) (n2 := 1); (case hw => rfl); (case ho => rfl); (case hs => rfl); (case hx => rfl); (case hown => (first | exact o1 | exact o1.alloc _)); (case hr => (refine il_block ?_; first | exact heap_alloc_new v1 _ | (refine (g1.block _ ?_ ?_).trans ?_; (simp <;> omega); (change some _ ≠ some _; simp); (first | exact heap_alloc_new w2 _ | exact heapN1 w2 _ _ | exact heapN2 w2 _ _)))); (case hn => rfl); (case hc => (intro h; cases h)); (case hl => (simp; omega)); (case hbase => (have := g1.size; simp at this ⊢; omega)); intro A2 c2 v2 o2 g2 q2)
              | (apply step_app (s := .tmp 56) (x := .tmp 57) (t := 23) (base := w2.heap.size) (e := 3) (i := i0) (ht := Try.underlying23) (hi := hi0) (hz := hz0) (hsize := hz1) (hby := hz2) (l1 := []) (l2 := s) (n2 := N); (case hw => rfl); (case ho => rfl); (case hs => rfl); (case hx => rfl); (case hown => (refine own_block (l := []) ?_ ?_ rfl ?_; (first | exact heap_alloc_new v2 _ | exact heapN1 v2 _ _ | exact heapN2 v2 _ _); (have h1 := g1.size; have h2 := g2.size; simp at h1 h2 ⊢; omega); (simp))); (case hr => (refine is.below ?_; apply bel_of; assumption)); (case hn => exact HN.out); (case hc => (intro h; cases h)); (case hl => (simp; omega)); (case hbase => (have h1 := g1.size; have h2 := g2.size; simp at h1 h2 ⊢; omega)); intro A3 c3 v3 o3 g3 q3)
              | (apply step_app (s := .tmp 58) (x := .tmp 65) (t := 23) (base := w2.heap.size) (e := 3) (i := i0) (ht := Try.underlying23) (hi := hi0) (hz := hz0) (hsize := hz1) (hby := hz2) (l1 := ([] ++ s)) (l2 := [x]) (n2 := 1); (case hw => rfl); (case ho => rfl); (case hs => rfl); (case hx => rfl); (case hown => (first | exact o3 | exact o3.alloc _)); (case hr => (refine il_block ?_; first | exact heap_alloc_new v3 _ | (refine (g3.block _ ?_ ?_).trans ?_; (simp <;> omega); (change some _ ≠ some _; simp); (first | exact heap_alloc_new v2 _ | exact heapN1 v2 _ _ | exact heapN2 v2 _ _)))); (case hn => rfl); (case hc => (intro h; cases h)); (case hl => (simp; omega)); (case hbase => (have h1 := g1.size; have h2 := g2.size; have h3 := g3.size; simp at h1 h2 h3 ⊢; omega)); intro A4 c4 v4 o4 g4 q4)
              | fail)
          all_goals go_wp2
          all_goals go_ret
          all_goals first
            | exact ⟨rfl, below_step B2 (bel_of (by assumption))⟩
            | exact ⟨ret_bool n6, below_step B2 (bel_of (by assumption))⟩
    · go_enter Try.func3, Try.ntmps3
      unfold maxLen at hm
      go_wp2
      go_ret
      exact ⟨rfl, Below.refl _ _⟩
  · go_enter Try.func3, Try.ntmps3
    unfold maxLen at hm
    go_wp2
    go_ret
    exact ⟨rfl, Below.refl _ _⟩
end Go.Proofs.Ytlggnnndahgbjaa
