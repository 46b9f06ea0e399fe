/- Subsets with and without a quorum, counted by the program: its contract. -/
import Derived.Test.YtngacjfoldgjpaaGreatDoorMetI0g
import Derived.Test.YtngacjfoldgjpaaGreatDoorIterSg
namespace Go.Proofs.YtngacjfoldgjpaaGreatDoor
open Go.RowKit Go.Shelf
attribute [local go_sem] Oper.semAt_some

theorem heap_alloc_at {w : World} {o : Array Value} {t : TypeId} {i : Nat} (h : i = w.heap.size) : (w.alloc (.cells o t)).heap[i]? = some (.cells o t (0, 0)) := by
  subst h; exact heap_alloc_new w _
/-- Memory where the loop over the subsets begins. -/
def ws0 (w : World) (fv : Value) (S : Nat) : World :=
  (((((w.alloc (.cells #[fv] 40)).alloc (.cells #[.int .i64 0, .int .i64 0, .int .i64 0, .int .i64 0, .int .i64 0, .int .i64 0, .int .i64 0] 45)).alloc (.cells #[.int .i64 0, .int .i64 0, .int .i64 0, .int .i64 0, .int .i64 0, .int .i64 0, .int .i64 0] 45)).alloc (.cells #[.int .i64 0, .int .i64 0, .int .i64 0, .int .i64 0, .int .i64 0, .int .i64 0, .int .i64 0] 45)).alloc (.cells #[.int .i64 0, .int .i64 0, .int .i64 0, .int .i64 0, .int .i64 0, .int .i64 0, .int .i64 0] 45)).alloc (.cells #[.int .u8 (S : Int)] 41)
theorem ws0_facts (w : World) (fv : Value) (S : Nat) :
    AB (ws0 w fv S) (w.heap.size + 1) (fun _ => 0) ∧ AB (ws0 w fv S) (w.heap.size + 1 + 1) (fun _ => 0) ∧ AB (ws0 w fv S) (w.heap.size + 1 + 1 + 1) (fun _ => 0) ∧ AB (ws0 w fv S) (w.heap.size + 1 + 1 + 1 + 1) (fun _ => 0) ∧
    (ws0 w fv S).cell? ⟨w.heap.size, 0, none⟩ = some fv ∧ (ws0 w fv S).cell? ⟨w.heap.size + 1 + 1 + 1 + 1 + 1, 0, none⟩ = some (.int .u8 (S : Int)) ∧ (ws0 w fv S).heap.size = w.heap.size + 6 ∧ Below w.heap.size w (ws0 w fv S) := by
  unfold ws0
  refine ⟨?_, ?_, ?_, ?_, ?_, ?_, by simp only [World.size_alloc], ?_⟩
  · unfold AB
    rw [Below.heap_alloc _ _ _ (by simp only [World.size_alloc]; omega), Below.heap_alloc _ _ _ (by simp only [World.size_alloc]; omega), Below.heap_alloc _ _ _ (by simp only [World.size_alloc]; omega), Below.heap_alloc _ _ _ (by simp only [World.size_alloc]; omega)]
    exact heap_alloc_at (by simp only [World.size_alloc])
  · unfold AB
    rw [Below.heap_alloc _ _ _ (by simp only [World.size_alloc]; omega), Below.heap_alloc _ _ _ (by simp only [World.size_alloc]; omega), Below.heap_alloc _ _ _ (by simp only [World.size_alloc]; omega)]
    exact heap_alloc_at (by simp only [World.size_alloc])
  · unfold AB
    rw [Below.heap_alloc _ _ _ (by simp only [World.size_alloc]; omega), Below.heap_alloc _ _ _ (by simp only [World.size_alloc]; omega)]
    exact heap_alloc_at (by simp only [World.size_alloc])
  · unfold AB
    rw [Below.heap_alloc _ _ _ (by simp only [World.size_alloc]; omega)]
    exact heap_alloc_at (by simp only [World.size_alloc])
  · refine cell_of_row _ _ 0 #[fv] 40 (0, 0) ?_
    rw [Below.heap_alloc _ _ _ (by simp only [World.size_alloc]; omega), Below.heap_alloc _ _ _ (by simp only [World.size_alloc]; omega), Below.heap_alloc _ _ _ (by simp only [World.size_alloc]; omega), Below.heap_alloc _ _ _ (by simp only [World.size_alloc]; omega), Below.heap_alloc _ _ _ (by simp only [World.size_alloc]; omega)]
    exact heap_alloc_new w _
  · refine cell_of_row _ _ 0 #[.int .u8 (S : Int)] 41 (0, 0) ?_
    exact heap_alloc_at (by simp only [World.size_alloc])
  · refine Below.alloc (Below.alloc (Below.alloc (Below.alloc (Below.alloc ((Below.refl _ w).alloc (Nat.le_refl _) _) ?_ _) ?_ _) ?_ _) ?_ _) ?_ _ <;> (simp only [World.size_alloc]; omega)
/-- Between two rounds: the counts of the sets that have come. -/
def wsI (w : World) (fv : Value) (p : Nat → Bool) (pre : List Sub64) (W : World) : Prop :=
  AB W (w.heap.size + 1) (fun _ => 0) ∧ AB W (w.heap.size + 1 + 1) (fun _ => 0) ∧ AB W (w.heap.size + 1 + 1 + 1) (cntL p (vals pre)) ∧ AB W (w.heap.size + 1 + 1 + 1 + 1) (cntL (fun m => !p m) (vals pre)) ∧
  W.cell? ⟨w.heap.size, 0, none⟩ = some fv ∧ w.heap.size + 6 ≤ W.heap.size ∧ Below w.heap.size w W
theorem wsI_own (w : World) (fv : Value) (p : Nat → Bool) : OwnFrom (w.heap.size + 6) (wsI w fv p) := by
  rintro s W W' row ⟨h1, h2, h3, h4, h5, h6, h7⟩ hg hr
  have same : ∀ i, i < w.heap.size + 6 → W'.heap[i]? = W.heap[i]? := fun i hi => hg.block i (by omega) fun e => by have := (hr i e.symm).1; omega
  exact ⟨h1.kept (same _ (by omega)), h2.kept (same _ (by omega)), h3.kept (same _ (by omega)), h4.kept (same _ (by omega)), (World.cell?_of_block (w := W) (same w.heap.size (by omega))).trans h5, Nat.le_trans h6 hg.size,
    ⟨hg.os.trans h7.os, hg.tape.trans h7.tape, hg.output.trans h7.output, Nat.le_trans h7.size hg.size, fun i hi => (same i (by omega)).trans (h7.block i hi)⟩⟩
theorem results_cell2 {fn : Func} {p q : Tmp} {ty : TypeId} (h : fn.results = #[.cell p ty, .cell q ty]) (tmps : Array Value) (P : Program) (w : World) :
    (results fn tmps).run P w = ((asAddr (tmps.getD p undef)).run P w).andThen fun a w₁ => ((loadVar ty a).run P w₁).andThen fun v w₂ => ((asAddr (tmps.getD q undef)).run P w₂).andThen fun a w₃ => ((loadVar ty a).run P w₃).andThen fun v' w₄ => .ok (.tuple #[v, v']) w₄ := by
  simp only [results, h]
  simp [Sem.run_bind, Result.andThen]
theorem res_two {W : World} {b b' : Nat} {u v : Nat → Nat} (tmps : Array Value) (h4 : tmps.getD 4 undef = .pointer (some ⟨b, 0, none⟩)) (h5 : tmps.getD 5 undef = .pointer (some ⟨b', 0, none⟩)) (h : AB W b u) (h' : AB W b' v) :
    (results Tryz.f15 tmps).run Tryz.prog W = .ok (.tuple #[AV u, AV v]) W := by
  have q0 := h.at_ (j := 0) (by omega)
  have q1 := h.at_ (j := 1) (by omega)
  have q2 := h.at_ (j := 2) (by omega)
  have q3 := h.at_ (j := 3) (by omega)
  have q4 := h.at_ (j := 4) (by omega)
  have q5 := h.at_ (j := 5) (by omega)
  have q6 := h.at_ (j := 6) (by omega)
  have p0 := h'.at_ (j := 0) (by omega)
  have p1 := h'.at_ (j := 1) (by omega)
  have p2 := h'.at_ (j := 2) (by omega)
  have p3 := h'.at_ (j := 3) (by omega)
  have p4 := h'.at_ (j := 4) (by omega)
  have p5 := h'.at_ (j := 5) (by omega)
  have p6 := h'.at_ (j := 6) (by omega)
  rw [results_cell2 rfl, h4, h5]
  go_simp
  exact ⟨rfl, rfl⟩
theorem AB.drew {w : World} {b : Nat} {u : Nat → Nat} (h : AB w b u) : AB w.drew b u := h
theorem drew_heap (w : World) (i : Nat) : w.drew.heap[i]? = w.heap[i]? := rfl
theorem ws_end {w W : World} {B h D : Nat} {y z u v : Nat → Nat} (a1 : AB W (h + 1) y) (a2 : AB W (h + 1 + 1) z) (hB : Below B w W) (hle : B ≤ h) (hK : W.heap[D]? = some (.deferred (some []))) (hD : h + 2 < D) :
    ∃ Z, (setA (setA W (h + 1) u) (h + 1 + 1) v).drew = Z ∧ AB Z (h + 1) u ∧ AB Z (h + 1 + 1) v ∧ Below B w Z ∧ Z.heap[D]? = some (.deferred (some [])) := by
  have b1 := a1.setA u
  have b2 : AB (setA W (h + 1) u) (h + 1 + 1) z := a2.kept (setA_other u (by omega))
  have bB := setA_below hB (b := h + 1) (by omega) u
  have bD : (setA W (h + 1) u).heap[D]? = some (.deferred (some [])) := (setA_other u (by omega)).trans hK
  generalize setA W (h + 1) u = X at *
  have c1 : AB (setA X (h + 1 + 1) v) (h + 1) u := b1.kept (setA_other v (by omega))
  have c2 := b2.setA v
  have cB := setA_below bB (b := h + 1 + 1) (by omega) v
  have cD : (setA X (h + 1 + 1) v).heap[D]? = some (.deferred (some [])) := (setA_other v (by omega)).trans bD
  generalize setA X (h + 1 + 1) v = Y at *
  exact ⟨_, rfl, c1.drew, c2.drew, cB.drew, (drew_heap Y D).trans cD⟩
theorem keeps_set {W : World} {b k : Nat} {u : Nat → Nat} (h : AB W b u) (v : Value) : KeepsOthers W (W.setCell ⟨b, k, none⟩ v) := by
  refine ⟨by simp, fun i o ho hn => ?_⟩
  by_cases e : i = b
  · subst e
    unfold AB at h
    rw [h] at ho
    injection ho with ho
    subst ho
    cases hn
  · rw [Below.heap_setCell _ _ _ _ e]
    exact ho

set_option maxRecDepth 100000 in
set_option maxHeartbeats 1000000 in
theorem ssizes_any (A : Option Addr) (c : Nat) (K : List Nat) (S : Nat) (w : World) (ha : IB w A K) (hl : K.length ≤ 100) (hKm : Msk K) (hS64 : S < 64) (hall : ∀ k, k ≤ S → (andNot k S == 0) = true) :
    Calls Tryz.prog 15 #[.slice A K.length c, .int .u8 S] w fun e w' => e = .returned (.tuple #[AV (cntL (hasQ K) (List.range (S + 1))), AV (cntL (fun m => !hasQ K m) (List.range (S + 1)))]) ∧ Below w.heap.size w w' := by
  refine (callsIn_wide (n := 6)).1 ?_
  refine callsIn_of_wp_marks Tryz.func15 rfl trivial ?_ rfl
  simp only [Tryz.ntmps15, List.size_toArray, List.length_cons, List.length_nil, Nat.reduceAdd, Nat.reduceSub, Array.replicate_succ, Array.replicate_zero, List.push_toArray, List.append_toArray, List.nil_append, List.cons_append]
  gi_wp2_with (refine ⟨trivial, ?_⟩; gi_at_call 40; refine (callsIn_wide.2 (subsets_any S _)).mono ?_; rintro e w' ⟨rfl, rfl⟩)
  obtain ⟨q1, q2, q3, q4, q5, q6, q7, q8⟩ := ws0_facts w (.slice A K.length c) S
  obtain ⟨W0, hW0⟩ : ∃ W0, ws0 w (.slice A K.length c) S = W0 := ⟨_, rfl⟩
  rw [hW0] at q1 q2 q3 q4 q5 q6 q7 q8
  have hW0' := hW0
  unfold ws0 at hW0'
  rw [hW0']
  clear hW0 hW0'
  refine wpIn_rangeFunc_ownF rfl (by omega) (gf := 62) (lb := #[.pointer (some ⟨w.heap.size + 1 + 1 + 1 + 1 + 1, 0, none⟩)]) rfl trivial (enters_of Tryz.func62 (by kernel_rfl) rfl)
    (subsets_stopsS S hS64 hall _ (by omega) (w.heap.size + 1 + 1 + 1 + 1 + 1) W0 (by omega) q6) (fun h k => k.trans h) (fun W l o o' hl _ _ _ => World.putObj_heap_other (by omega)) (Below.refl _ _) (fun _ => rfl)
    (wsI w (.slice A K.length c) (hasQ K)) (fun _ _ _ => False) (by rw [q7]; exact wsI_own w _ _) (fun _ _ _ _ _ hs _ _ => hs)
    ⟨q1, q2, q3, q4, q5, by omega, q8⟩
    (fun x => { tmps := #[.slice A K.length c, .int .u8 (S : Int), .pointer (some ⟨w.heap.size, 0, none⟩), undef, .pointer (some ⟨w.heap.size + 1, 0, none⟩), .pointer (some ⟨w.heap.size + 1 + 1, 0, none⟩), .pointer (some ⟨w.heap.size + 1 + 1 + 1, 0, none⟩), .pointer (some ⟨w.heap.size + 1 + 1 + 1 + 1, 0, none⟩), .int .u8 (x.1 : Int), .int .u8 (S : Int), .func (.func 62) #[] #[.pointer (some ⟨w.heap.size + 1 + 1 + 1 + 1 + 1, 0, none⟩)], .int .u8 (x.1 : Int), undef, undef, undef, undef, undef, undef, undef, undef, undef, undef, undef, undef, undef, undef, undef, undef, undef], defers := [] }) ?assign ?body ?done ?stop
  case assign =>
    intro l x W K hK
    dsimp only [encB]
    gi_wp2
    exact hK
  case body =>
    rintro l pre x W ⟨a1, a2, a3, a4, hc0, hsz, hB⟩ hlt
    obtain ⟨x, hx⟩ := x
    dsimp only
    have HC := Lib.hid (hasQuorum_any A c K x W (ha.below hB) (by omega) hKm hx)
    have HS := Lib.hid (fun W => size_any x W hx)
    have hml := mem_len x
    have hj0 : (0 : Int) ≤ ((mem x).length : Int) := by omega
    have hj7 : ((mem x).length : Int) < 7 := by omega
    have hvl : (vals pre).length ≤ 64 := by simp [vals]; omega
    cases hp : hasQ K x
    · have HP := Lib.hid hp
      have HY := Lib.hid (cntL_no (p := hasQ K) (l := vals pre) hp)
      have HN := Lib.hid (cntL_yes (p := fun m => !hasQ K m) (l := vals pre) (x := x) (by simp [hp]))
      clear hp
      have hcl := Nat.le_trans (cntL_le (fun m => !hasQ K m) (vals pre) (mem x).length) hvl
      have t1 := a4.at_ (j := (mem x).length) (by omega)
      have z1 := a4.fz (mem x).length
      have A4 := a4.inc (k := (mem x).length) (by omega)
      rw [← HN.out] at A4
      have KO := keeps_set a4 (k := (mem x).length) (.int .i64 (((cntL (fun m => !hasQ K m) (vals pre) (mem x).length : Nat) : Int) + 1))
      have HO : ∀ i, i ≠ w.heap.size + 1 + 1 + 1 + 1 → (W.setCell ⟨w.heap.size + 1 + 1 + 1 + 1, (mem x).length, none⟩ (.int .i64 (((cntL (fun m => !hasQ K m) (vals pre) (mem x).length : Nat) : Int) + 1))).heap[i]? = W.heap[i]? := fun i hi => Below.heap_setCell _ _ _ _ hi
      have HB2 : Below w.heap.size w (W.setCell ⟨w.heap.size + 1 + 1 + 1 + 1, (mem x).length, none⟩ (.int .i64 (((cntL (fun m => !hasQ K m) (vals pre) (mem x).length : Nat) : Int) + 1))) := hB.setCell (by simp; omega) _
      have D := Lib.hid (And.intro KO (And.intro HO (And.intro HB2 A4)))
      clear KO HO HB2 A4
      gi_wp2_with (refine ⟨trivial, ?_⟩; first | (gi_at_call 41; refine (CallsIn.inRound l (callsIn_wide.2 HC.out)).mono ?_; rintro e w' ⟨he, rfl⟩; rw [HP.out] at he; subst he) | (gi_at_call 42; refine (CallsIn.inRound l (callsIn_wide.2 (HS.out _))).mono ?_; rintro e w' ⟨rfl, rfl⟩) | fail)
      obtain ⟨KO, HO, HB2, A4⟩ := D.out
      refine ⟨KO, HO _ (by omega), ⟨a1.kept (HO _ (by omega)), a2.kept (HO _ (by omega)), ?_, ?_, ?_, ?_, HB2⟩⟩
      · rw [vals_snoc, HY.out]; exact a3.kept (HO _ (by omega))
      · rw [vals_snoc]; exact A4
      · exact (World.cell?_of_block (w := W) (HO w.heap.size (by omega))).trans hc0
      · simpa using hsz
    · have HP := Lib.hid hp
      have HY := Lib.hid (cntL_no (p := fun m => !hasQ K m) (l := vals pre) (x := x) (by simp [hp]))
      have HN := Lib.hid (cntL_yes (p := hasQ K) (l := vals pre) (x := x) hp)
      clear hp
      have hcl := Nat.le_trans (cntL_le (hasQ K) (vals pre) (mem x).length) hvl
      have t1 := a3.at_ (j := (mem x).length) (by omega)
      have z1 := a3.fz (mem x).length
      have A4 := a3.inc (k := (mem x).length) (by omega)
      rw [← HN.out] at A4
      have KO := keeps_set a3 (k := (mem x).length) (.int .i64 (((cntL (hasQ K) (vals pre) (mem x).length : Nat) : Int) + 1))
      have HO : ∀ i, i ≠ w.heap.size + 1 + 1 + 1 → (W.setCell ⟨w.heap.size + 1 + 1 + 1, (mem x).length, none⟩ (.int .i64 (((cntL (hasQ K) (vals pre) (mem x).length : Nat) : Int) + 1))).heap[i]? = W.heap[i]? := fun i hi => Below.heap_setCell _ _ _ _ hi
      have HB2 : Below w.heap.size w (W.setCell ⟨w.heap.size + 1 + 1 + 1, (mem x).length, none⟩ (.int .i64 (((cntL (hasQ K) (vals pre) (mem x).length : Nat) : Int) + 1))) := hB.setCell (by simp; omega) _
      have D := Lib.hid (And.intro KO (And.intro HO (And.intro HB2 A4)))
      clear KO HO HB2 A4
      gi_wp2_with (refine ⟨trivial, ?_⟩; first | (gi_at_call 41; refine (CallsIn.inRound l (callsIn_wide.2 HC.out)).mono ?_; rintro e w' ⟨he, rfl⟩; rw [HP.out] at he; subst he) | (gi_at_call 42; refine (CallsIn.inRound l (callsIn_wide.2 (HS.out _))).mono ?_; rintro e w' ⟨rfl, rfl⟩) | fail)
      obtain ⟨KO, HO, HB2, A4⟩ := D.out
      refine ⟨KO, HO _ (by omega), ⟨a1.kept (HO _ (by omega)), a2.kept (HO _ (by omega)), ?_, ?_, ?_, ?_, HB2⟩⟩
      · rw [vals_snoc]; exact A4
      · rw [vals_snoc, HY.out]; exact a4.kept (HO _ (by omega))
      · exact (World.cell?_of_block (w := W) (HO w.heap.size (by omega))).trans hc0
      · simpa using hsz
  case done =>
    rintro D ys W hD hS ⟨a1, a2, a3, a4, hc0, hsz, hB⟩ hK
    rw [hS] at a3 a4
    obtain ⟨u, hu⟩ : ∃ u, u = cntL (hasQ K) (List.range (S + 1)) := ⟨_, rfl⟩
    obtain ⟨v, hv⟩ : ∃ v, v = cntL (fun m => !hasQ K m) (List.range (S + 1)) := ⟨_, rfl⟩
    rw [← hu] at a3
    rw [← hv] at a4
    have HU := Lib.hid (And.intro hu hv)
    clear hu hv
    have q0 := a3.at_ (j := 0) (by omega)
    have q1 := a3.at_ (j := 1) (by omega)
    have q2 := a3.at_ (j := 2) (by omega)
    have q3 := a3.at_ (j := 3) (by omega)
    have q4 := a3.at_ (j := 4) (by omega)
    have q5 := a3.at_ (j := 5) (by omega)
    have q6 := a3.at_ (j := 6) (by omega)
    have p0 := a4.at_ (j := 0) (by omega)
    have p1 := a4.at_ (j := 1) (by omega)
    have p2 := a4.at_ (j := 2) (by omega)
    have p3 := a4.at_ (j := 3) (by omega)
    have p4 := a4.at_ (j := 4) (by omega)
    have p5 := a4.at_ (j := 5) (by omega)
    have p6 := a4.at_ (j := 6) (by omega)
    have r0 := a1.at_ (j := 0) (by omega)
    have r1 := a1.at_ (j := 1) (by omega)
    have r2 := a1.at_ (j := 2) (by omega)
    have r3 := a1.at_ (j := 3) (by omega)
    have r4 := a1.at_ (j := 4) (by omega)
    have r5 := a1.at_ (j := 5) (by omega)
    have r6 := a1.at_ (j := 6) (by omega)
    have s0 := a2.at_ (j := 0) (by omega)
    have s1 := a2.at_ (j := 1) (by omega)
    have s2 := a2.at_ (j := 2) (by omega)
    have s3 := a2.at_ (j := 3) (by omega)
    have s4 := a2.at_ (j := 4) (by omega)
    have s5 := a2.at_ (j := 5) (by omega)
    have s6 := a2.at_ (j := 6) (by omega)
    have x0 := a1.fz 0
    have x1 := a1.fz 1
    have x2 := a1.fz 2
    have x3 := a1.fz 3
    have x4 := a1.fz 4
    have x5 := a1.fz 5
    have x6 := a1.fz 6
    have y0 := a2.fz 0
    have y1 := a2.fz 1
    have y2 := a2.fz 2
    have y3 := a2.fz 3
    have y4 := a2.fz 4
    have y5 := a2.fz 5
    have y6 := a2.fz 6
    have hDl := (Array.getElem?_eq_some_iff.1 hK).1
    obtain ⟨Z, hZ, H1, H2, HB, HD⟩ := ws_end (u := u) (v := v) a1 a2 hB (by omega) hK (by omega)
    unfold setA at hZ
    have E := Lib.hid (And.intro H1 (And.intro H2 (And.intro HB (And.intro HD hZ))))
    clear H1 H2 HB HD hZ
    gi_wp2
    gi_region
    obtain ⟨H1, H2, HB, HD, hZ⟩ := E.out
    rw [hZ]
    clear hZ E
    clear q0 q1 q2 q3 q4 q5 q6 p0 p1 p2 p3 p4 p5 p6 r0 r1 r2 r3 r4 r5 r6 s0 s1 s2 s3 s4 s5 s6 x0 x1 x2 x3 x4 x5 x6 y0 y1 y2 y3 y4 y5 y6
    gi_wp2
    refine ⟨by simp, .inl ⟨_, _, rfl, run_takeDeferred HD, ?_⟩⟩
    refine ⟨_, res_two _ rfl rfl (H1.kept (World.putObj_heap_other (by omega))) (H2.kept (World.putObj_heap_other (by omega))), ?_, ?_⟩
    · rw [HU.out.1, HU.out.2]
    · exact HB.trans (belowK_b (w := w) (Nat.le_refl _) Z D _ _ (by omega) HD rfl rfl)
  case stop =>
    rintro D c pre W _ _ h _
    exact h.elim
end Go.Proofs.YtngacjfoldgjpaaGreatDoor
