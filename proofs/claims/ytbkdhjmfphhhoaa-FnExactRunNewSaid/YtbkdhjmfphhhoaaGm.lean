/- The library's sort and compact on a row of the call's own. -/
import Derived.Test.YtbkdhjmfphhhoaaGk
import Derived.Test.YtbkdhjmfphhhoaaShelf
import Derived.Sort.OwnSortedInts
import Derived.Test.YtbkdhjmfphhhoaaGl
import Derived.Deep.MidRow
namespace Go.Proofs.Ytbkdhjmfphhhoaa
open Go.RowKit Go.Sort

theorem insSort_nil (p : Option Addr) (cap : Nat) (w : World) :
    Calls Try.prog 162 #[.slice p 0 cap, .int .i64 0, .int .i64 0] w fun e w' => e = .returned (.tuple #[]) ∧ w' = w := by
  go_enter Try.func162, Try.ntmps162
  go_wp2
  refine wp_loop_rounds 1 ?_
  rw [rounds_succ]
  go_wp2
  go_end0
  exact ⟨rfl, rfl⟩
set_option maxRecDepth 100000 in
theorem pdq_nil (p : Option Addr) (cap : Nat) (w : World) :
    Calls Try.prog 145 #[.slice p 0 cap, .int .i64 0, .int .i64 0, .int .i64 0] w fun e w' => e = .returned (.tuple #[]) ∧ w' = w := by
  go_enter Try.func145, Try.ntmps145
  go_wp2
  refine wp_loop_rounds 1 ?_
  rw [rounds_succ]
  go_wp2_with (first | (go_at_call 162; refine (insSort_nil p cap _).mono ?_; rintro e w' ⟨rfl, rfl⟩))
  refine bodyPost_ret (results_none rfl _ _ _) rfl ?_
  exact ⟨rfl, rfl⟩
set_option maxRecDepth 100000 in
theorem sort_nil (p : Option Addr) (cap : Nat) (w : World) :
    Calls Try.prog 115 #[.slice p 0 cap] w fun e w' => e = .returned (.tuple #[]) ∧ w' = w := by
  have hLen : ∀ w, Calls Try.prog 146 #[.int .u64 0] w fun e w' => e = .returned (.int .i64 0) ∧ w' = w := fun w => Try.bits_Len 0 w (by omega) (by omega)
  go_enter Try.func115, Try.ntmps115
  go_wp2_with (first
    | (go_at_call 146; refine (hLen _).mono ?_; rintro e w' ⟨rfl, rfl⟩)
    | (go_at_call 145; refine (pdq_nil p cap _).mono ?_; rintro e w' ⟨rfl, rfl⟩))
  go_end0
  exact ⟨rfl, rfl⟩

theorem grown_refl (w : World) (o : Option Nat) : w.grownBy w o := ⟨rfl, rfl, rfl, Nat.le_refl _, fun _ _ _ => rfl⟩
abbrev ascI (l : List Int) : List Int := l.mergeSort fun x y => decide (x ≤ y)
/-- A row of the call's own is sorted. -/
theorem sort_own {base : Nat} (A : Option Addr) (c : Nat) (l : List Int) (w : World) (h : w.ownsRow base 3 1 (.slice A l.length c) l.length (l.map (Value.int .i64))) (hl : l.length ≤ 1048576) :
    Calls Try.prog 115 #[.slice A l.length c] w fun e w' => e = .returned (.tuple #[]) ∧
      w'.ownsRow base 3 1 (.slice A l.length c) l.length ((ascI l).map (Value.int .i64)) ∧ w.grownBy w' (Value.slice A l.length c).ownBlock := by
  have hlen : (ascI l).length = l.length := List.length_mergeSort _
  rcases h.2 with ⟨h0, h1⟩ | ⟨g, cap, cur, hv, hb, hg, h1, h2, h3, h4⟩
  · have : l = [] := List.length_eq_zero_iff.1 h1
    subst this
    have h0 : ascI [] = [] := by simp [ascI]
    rw [h0]
    refine (sort_nil _ _ _).mono ?_
    rintro e w' ⟨rfl, rfl⟩
    exact ⟨rfl, h, grown_refl _ _⟩
  · cases hv
    rw [Nat.mul_one] at h4
    refine (Try.slices_Sort_int g 0 c l w (holds_of_blockI hg h4) (Array.getElem?_eq_some_iff.1 hg).1 (by omega)).mono ?_
    rintro e w' ⟨rfl, n, os, rfl⟩
    exact ⟨rfl, ownsRow_sortedI hlen hb hg h1 h2 h3, grownBy_sortedI _⟩
theorem compact_le (l : List Int) : (Lib.compact l).length ≤ l.length := by
  have key : ∀ (d : Array Int) m, (Lib.compactUpTo d m).length ≤ m := by
    intro d m
    induction m with
    | zero => simp [Lib.compactUpTo]
    | succ m ih =>
      rw [Lib.compactUpTo_succ]
      split
      · simp; omega
      · simp; omega
  exact key _ _
theorem grow_nil (w : World) : grow w #[] = w := by simp [grow]
/-- A row of the call's own is compacted. -/
theorem compact_own {base : Nat} (A : Option Addr) (c n : Nat) (l : List Int) (w : World) (hn : l.length = n) (h : w.ownsRow base 3 1 (.slice A n c) n (l.map (Value.int .i64))) (hl : n ≤ 1048576) :
    Calls Try.prog 116 #[.slice A n c] w fun e w' => e = .returned (.slice A (Lib.compact l).length c) ∧
      w'.ownsRow base 3 1 (.slice A (Lib.compact l).length c) (Lib.compact l).length ((Lib.compact l).map (Value.int .i64)) ∧ w.grownBy w' (Value.slice A n c).ownBlock := by
  subst hn
  have hle := compact_le l
  rcases h.2 with ⟨h0, h1⟩ | ⟨g, cap, cur, hv, hb, hg, h1, h2, h3, h4⟩
  · have : l = [] := List.length_eq_zero_iff.1 h1
    subst this
    refine (Try.slices_Compact_int_empty _ _ _).mono ?_
    rintro e w' ⟨rfl, rfl⟩
    exact ⟨rfl, h, grown_refl _ _⟩
  · cases hv
    rw [Nat.mul_one] at h4
    refine (Try.slices_Compact_int g 0 c l w (holds_of_blockI hg h4) (by omega) h1).mono ?_
    rintro e w' ⟨rfl, q, rfl⟩
    have ht := heap_sortedI (n := q) (os := #[]) (Lib.compact l ++ List.replicate (l.length - (Lib.compact l).length) 0).toArray hg
    have hb2 := grownBy_sortedI (w := w) (g := g) (n := q) (os := #[]) (Lib.compact l ++ List.replicate (l.length - (Lib.compact l).length) 0).toArray
    rw [grow_nil] at ht hb2
    refine ⟨rfl, ⟨by simp, .inr ⟨g, c, _, rfl, hb, ht, by omega, h2, by simp [putCells, h3], ?_⟩⟩, hb2⟩
    have h5 := take_putCellsI cur (Lib.compact l ++ List.replicate (l.length - (Lib.compact l).length) 0) (by simp; omega)
    have h6 := congrArg (List.take (Lib.compact l).length) h5
    rw [Nat.mul_one]
    rw [List.take_take] at h6
    simpa [List.map_append, Nat.min_def, hle] using h6
end Go.Proofs.Ytbkdhjmfphhhoaa

/- The chosen values, the model's way, by contracts. -/
namespace Go.Proofs.Ytbkdhjmfphhhoaa
open Go.RowKit

/-- The chosen values up to v - 1. -/
def chP (r : Rn) (v : Int) : Bool := r.pr.any fun p => p.2.1 == v && hasL r.Q p.2.2
def chTo (r : Rn) (k : Nat) : List Int := ((List.range k).map fun i : Nat => ((i + 1 : Nat) : Int)).filter (chP r)
theorem chTo_all (r : Rn) : chTo r 99 = chosen r := rfl
theorem chTo_succ (r : Rn) (k : Nat) : chTo r (k + 1) = if chP r ((k + 1 : Nat) : Int) then chTo r k ++ [((k + 1 : Nat) : Int)] else chTo r k := by
  unfold chTo
  rw [List.range_succ, List.map_append, List.filter_append]
  cases h : chP r ((k + 1 : Nat) : Int)
  · simp [List.filter_cons]
    simpa using h
  · simp [List.filter_cons]
    simpa using h
theorem chTo_len (r : Rn) (k : Nat) : (chTo r k).length ≤ k := Nat.le_trans (List.length_filter_le _ _) (by simp)
theorem chTo_has (r : Rn) (k : Nat) : has (chTo r k) ((k + 1 : Nat) : Int) = false := by
  rw [Bool.eq_false_iff]
  intro h
  have := has_mem.1 h
  simp only [chTo, List.mem_filter, List.mem_map, List.mem_range] at this
  obtain ⟨⟨i, h1, h2⟩, _⟩ := this
  omega
/-- Among the first j proposals one has the value and a quorum. -/
def chJ (r : Rn) (v : Int) (j : Nat) : Bool := (r.pr.take j).any fun p => p.2.1 == v && hasL r.Q p.2.2
theorem chJ_step {r : Rn} {v : Int} {j : Nat} {p : Pr} (h : r.pr[j]? = some p) : chJ r v (j + 1) = (chJ r v j || (p.2.1 == v && hasL r.Q p.2.2)) := by
  unfold chJ
  rw [take_p h, List.any_append]
  simp
theorem chJ_all (r : Rn) (v : Int) : chJ r v r.pr.length = chP r v := by unfold chJ chP; rw [List.take_length]
/-- The list in the round of a value: with the value where one was found. -/
def chL (r : Rn) (k j : Nat) : List Int := if chJ r ((k + 1 : Nat) : Int) j then chTo r k ++ [((k + 1 : Nat) : Int)] else chTo r k
theorem chL_zero (r : Rn) (k : Nat) : chL r k 0 = chTo r k := by simp [chL, chJ]
theorem chL_all (r : Rn) (k : Nat) : chL r k r.pr.length = chTo r (k + 1) := by rw [chL, chJ_all, chTo_succ]
theorem chL_has (r : Rn) (k j : Nat) : has (chL r k j) ((k + 1 : Nat) : Int) = chJ r ((k + 1 : Nat) : Int) j := by
  unfold chL
  cases h : chJ r ((k + 1 : Nat) : Int) j
  · simp only [Bool.false_eq_true, if_false]
    exact chTo_has r k
  · simp [has]
theorem chL_len (r : Rn) (k j : Nat) : (chL r k j).length ≤ k + 1 := by
  have := chTo_len r k
  unfold chL
  split
  · simp; omega
  · omega
theorem chL_no {r : Rn} {k j : Nat} {p : Pr} (h : r.pr[j]? = some p) (hn : (p.2.1 == ((k + 1 : Nat) : Int) && hasL r.Q p.2.2) = false) : chL r k (j + 1) = chL r k j := by
  unfold chL
  rw [chJ_step h, hn, Bool.or_false]
theorem chL_had {r : Rn} {k j : Nat} {p : Pr} (h : r.pr[j]? = some p) (hn : chJ r ((k + 1 : Nat) : Int) j = true) : chL r k (j + 1) = chL r k j := by
  unfold chL
  rw [chJ_step h, hn, Bool.true_or]
theorem chL_yes {r : Rn} {k j : Nat} {p : Pr} (h : r.pr[j]? = some p) (hn : chJ r ((k + 1 : Nat) : Int) j = false) (hy : (p.2.1 == ((k + 1 : Nat) : Int) && hasL r.Q p.2.2) = true) : chL r k (j + 1) = chL r k j ++ [((k + 1 : Nat) : Int)] := by
  unfold chL
  rw [chJ_step h, hn, hy]
  simp

set_option maxRecDepth 100000 in
set_option maxHeartbeats 6400000 in
theorem l22Chosen_any (A B C D : Option Addr) (c d e f : Nat) (r : Rn) (w : World) (h : Reads w A B C D r) (hl : RLen r 1048576) :
    Calls Try.prog 99 #[RVal A B C D c d e f r] w (New w (chosen r)) := by
  obtain ⟨i0, hi0, hz0, hz1, hz2⟩ := info_parts int_info
  have rb := (RB.new w (.slice A r.P.length c) (.slice B r.Q.length d) (.slice C r.ac.length e) (.slice D r.pr.length f) 30).alloc (.cells #[] 3)
  have hbW : Below w.heap.size w ((w.alloc (.cells #[.slice A r.P.length c, .slice B r.Q.length d, .slice C r.ac.length e, .slice D r.pr.length f] 30)).alloc (.cells #[] 3)) := ((Below.refl _ w).alloc (Nat.le_refl _) _).alloc (by simp) _
  have ho : ((w.alloc (.cells #[.slice A r.P.length c, .slice B r.Q.length d, .slice C r.ac.length e, .slice D r.pr.length f] 30)).alloc (.cells #[] 3)).ownsRow (w.heap.size + 1) 3 1 (.slice (some ⟨w.heap.size + 1, 0, none⟩) 0 0) 0 [] := by
    have := World.ownsRow_made (base := w.heap.size + 1) (size := 1) (e := 3) (w.alloc (.cells #[.slice A r.P.length c, .slice B r.Q.length d, .slice C r.ac.length e, .slice D r.pr.length f] 30)) #[] 0 (by simp) (by unfold maxLen; omega) (by simp)
    rwa [World.size_alloc] at this
  have H := Lib.hid (And.intro h hl)
  have H0 := Lib.hid (And.intro rb (And.intro hbW ho))
  clear h hl rb hbW ho
  go_enter Try.func99, Try.ntmps99
  go_wp2
  go_loopw [3, 4] (fun v i wr => ∃ (k : Nat) (A5 : Option Addr) (c5 : Nat), k ≤ 99 ∧ i = .int .i64 ((k : Int) + 1) ∧ v = .slice A5 (chTo r k).length c5 ∧ wr.ownsRow (w.heap.size + 1) 3 1 (.slice A5 (chTo r k).length c5) (chTo r k).length ((chTo r k).map (Value.int .i64)) ∧ RB wr w.heap.size (.slice A r.P.length c) (.slice B r.Q.length d) (.slice C r.ac.length e) (.slice D r.pr.length f) ∧ Below w.heap.size w wr) (fun _ i _ => 101 - (intOf i).toNat)
  case atStart => exact ⟨0, _, _, by omega, by go_num, rfl, H0.out.2.2, H0.out.1, H0.out.2.1⟩
  case round =>
    clear H0
    obtain ⟨k, A5, c5, hk, rfl, rfl, hown, rb, hbel⟩ := hrel
    by_cases hlt : k < 99
    · have hkk : (k : Int) + 1 ≤ 99 := by omega
      have hkw : ((k + 1 : Nat) : Int) = (k : Int) + 1 := by omega
      have hown' := hown
      rw [← chL_zero] at hown' ⊢
      clear hown hkw
      go_wp2
      go_loopw [3, 5] (fun v i wq => ∃ (j : Nat) (A6 : Option Addr) (c6 : Nat), j ≤ r.pr.length ∧ i = .int .i64 j ∧ v = .slice A6 (chL r k j).length c6 ∧ wq.ownsRow (w.heap.size + 1) 3 1 (.slice A6 (chL r k j).length c6) (chL r k j).length ((chL r k j).map (Value.int .i64)) ∧ RB wq w.heap.size (.slice A r.P.length c) (.slice B r.Q.length d) (.slice C r.ac.length e) (.slice D r.pr.length f) ∧ Below w.heap.size w wq) (fun _ i _ => r.pr.length - (intOf i).toNat)
      case atStart => exact ⟨0, A5, c5, Nat.zero_le _, rfl, rfl, hown', rb, hbel⟩
      case round =>
        clear hown' rb hbel
        obtain ⟨j, A6, c6, hj, rfl, rfl, hown, rb, hbel⟩ := hrel
        have q1 := rb.c1
        have q3 := rb.c3
        have hlp := H.out.2.pr
        by_cases hlt2 : j < r.pr.length
        · obtain ⟨b5, off5, p, B5, d5, rfl, hp, e0, e1, e2, i5⟩ := (H.out.1.pr.below hbel).at_ hlt2
          have hl5 := PL.short H.out.2.sv hp
          have HP := Lib.hid hp
          clear hp
          have hj0 : (0 : Int) ≤ (j : Int) := by omega
          have hj1 : (j : Int) < (r.pr.length : Int) := by omega
          have hcl := chL_len r k j
          have il6 := (IL.of_own hown).1
          have EH : ∀ n, Calls Try.prog 120 #[.slice B r.Q.length d, .slice B5 p.2.2.length d5] (wr.drewN n) fun e w' => e = .returned (.bool (hasL r.Q p.2.2)) ∧ wr.drewN n = w' := fun n => l3Has_any _ _ _ _ _ _ _ ((H.out.1.Q.below hbel).below (below_drewN (Below.refl _ _) n)) (i5.drew n) H.out.2.Q H.out.2.sQ hl5
          have EC : ∀ n, Calls Try.prog 72 #[.slice A6 (chL r k j).length c6, .int .i64 ((k : Int) + 1)] (wr.drewN n) fun e w' => e = .returned (.bool (has (chL r k j) ((k + 1 : Nat) : Int))) ∧ wr.drewN n = w' := fun n => l1Contains_any _ _ _ _ _ (il6.drew n) (by omega)
          rw [chL_has] at EC
          by_cases hv : p.2.1 = (k : Int) + 1
          · have hv1 : (p.2.1 == (k : Int) + 1) = true := by simpa using hv
            cases hq : hasL r.Q p.2.2
            · rw [hq] at EH
              have HE := Lib.hid (chL_no (k := k) HP.out (by rw [hq]; simp))
              have HB := fun n => Lib.hid (And.intro (own_at hown (w' := wr.drewN n) fun _ _ => rfl) (And.intro (rb.below (below_drewN (Below.refl _ wr) n)) (below_drewN hbel n)))
              clear hv hq il6
              go_wp2
              go_quiet ((first | (go_at_call 120; exact quiet_same (EH _)) | (go_at_call 72; exact quiet_same (EC _))))
              go_wp2
              have HB2 := HB nq
              clear HB
              go_roundw
              case rel => exact ⟨j + 1, A6, c6, by omega, by go_num, by rw [HE.out], by rw [HE.out]; exact HB2.out.1, HB2.out.2.1, HB2.out.2.2⟩
              case measure => simp [intOf]; omega
            · rw [hq] at EH
              cases hch : chJ r ((k + 1 : Nat) : Int) j
              · rw [hch] at EC
                have HE := Lib.hid (chL_yes (k := k) HP.out hch (by rw [hq]; simpa using hv))
                have HB := fun n => Lib.hid (And.intro (own_at hown (w' := wr.drewN n) fun _ _ => rfl) (And.intro (rb.below (below_drewN (Below.refl _ wr) n)) (below_drewN hbel n)))
                clear hv hq hch il6
                go_wp2
                go_quiet ((first | (go_at_call 120; exact quiet_same (EH _)) | (go_at_call 72; exact quiet_same (EC _))))
                have hw2 := (HB nq).out.1
                have rb2 := (HB nq).out.2.1
                have hb2 := (HB nq).out.2.2
                clear EH EC e0 e1 e2 i5 q1 q3 hown rb hbel HB
                generalize wr.drewN nq = wq at *
                have hlt3 : w.heap.size < wq.heap.size := rb2.lt
                go_wp2_with (at_builtin; refine wpList_append_own _ rfl (.tmp 44) (.tmp 46) 37 rfl (w.heap.size + 1) 3 i0 (.int .i64 0) 1 8 Try.underlying37 hi0 hz0 hz1 hz2 rfl (by decide) _ _ _ rfl (hw2.alloc _) ⟨wq.heap.size, 0, none⟩ 1 1 [.int .i64 ((k : Int) + 1)] rfl rfl (cell_one_new _ _ _) (ints_oneCell .i64 [(k : Int) + 1]) (by unfold maxLen; omega) (by omega) (by simp; omega) ?_)
                intro v' w7 ho7 hg7 _
                have ho8 : w7.ownsRow (w.heap.size + 1) 3 1 v' (chL r k (j + 1)).length ((chL r k (j + 1)).map (Value.int .i64)) := by
                  rw [HE.out]
                  simpa using ho7
                obtain ⟨A7, c7, rfl⟩ := own_slice ho8
                have hb7 : Below w.heap.size w w7 := (hb2.alloc hb2.size _).grown hg7 (by simp; omega) (fun g hg => by have := (hw2.lt g hg).1; omega)
                have rb7 : RB w7 w.heap.size (.slice A r.P.length c) (.slice B r.Q.length d) (.slice C r.ac.length e) (.slice (some ⟨b5, off5, none⟩) r.pr.length f) := (rb2.alloc _).kept (hg7.block _ (by simp; omega) (fun hg => by have := (hw2.lt _ hg.symm).1; omega))
                have HO := Lib.hid (And.intro ho8 (And.intro rb7 hb7))
                clear ho7 hg7 ho8 hb7 rb7 hw2 rb2 hb2
                go_wp2
                go_roundw
                case rel => exact ⟨j + 1, A7, c7, by omega, by go_num, rfl, HO.out.1, HO.out.2.1, HO.out.2.2⟩
                case measure => simp [intOf]; omega
              · rw [hch] at EC
                have HE := Lib.hid (chL_had (k := k) HP.out hch)
                have HB := fun n => Lib.hid (And.intro (own_at hown (w' := wr.drewN n) fun _ _ => rfl) (And.intro (rb.below (below_drewN (Below.refl _ wr) n)) (below_drewN hbel n)))
                clear hv hq hch il6
                go_wp2
                go_quiet ((first | (go_at_call 120; exact quiet_same (EH _)) | (go_at_call 72; exact quiet_same (EC _))))
                go_wp2
                have HB2 := HB nq
                clear HB
                go_roundw
                case rel => exact ⟨j + 1, A6, c6, by omega, by go_num, by rw [HE.out], by rw [HE.out]; exact HB2.out.1, HB2.out.2.1, HB2.out.2.2⟩
                case measure => simp [intOf]; omega
          · have hv1 : (p.2.1 == (k : Int) + 1) = false := by simpa using hv
            have HE := Lib.hid (chL_no (k := k) HP.out (show (p.2.1 == ((k + 1 : Nat) : Int) && hasL r.Q p.2.2) = false by rw [show (p.2.1 == ((k + 1 : Nat) : Int)) = false from hv1]; rfl))
            have HB := fun n => Lib.hid (And.intro (own_at hown (w' := wr.drewN n) fun _ _ => rfl) (And.intro (rb.below (below_drewN (Below.refl _ wr) n)) (below_drewN hbel n)))
            clear hv il6
            go_wp2
            go_quiet ((first | (go_at_call 120; exact quiet_same (EH _)) | (go_at_call 72; exact quiet_same (EC _))))
            go_wp2
            have HB2 := HB nq
            clear HB
            go_roundw
            case rel => exact ⟨j + 1, A6, c6, by omega, by go_num, by rw [HE.out], by rw [HE.out]; exact HB2.out.1, HB2.out.2.1, HB2.out.2.2⟩
            case measure => simp [intOf]; omega
        · have hjl : j = r.pr.length := by omega
          subst hjl
          have HO := Lib.hid (show wr.ownsRow (w.heap.size + 1) 3 1 (.slice A6 (chTo r (k + 1)).length c6) (chTo r (k + 1)).length ((chTo r (k + 1)).map (Value.int .i64)) by rw [← chL_all]; exact hown)
          rw [chL_all]
          clear hown
          go_wp2
          go_roundw
          case rel => exact ⟨k + 1, A6, c6, by omega, by go_num, rfl, HO.out, rb, hbel⟩
          case measure => simp [intOf]; omega
    · have hk9 : k = 99 := by omega
      subst hk9
      have HO := Lib.hid (show New w (chosen r) (.returned (.slice A5 (chosen r).length c5)) wr from ⟨A5, c5, rfl, own_base hown (Nat.le_succ _), hbel⟩)
      rw [chTo_all]
      clear hown
      go_wp2
      go_ret
      exact HO.out
end Go.Proofs.Ytbkdhjmfphhhoaa

/- The chosen values, the program's way, by contracts. -/
namespace Go.Proofs.Ytbkdhjmfphhhoaa
open Go.RowKit

theorem tal_index (tl : List Tl) (k : Nat) (t : Tl) (hk : k < 21) (ht : tl[k]? = some t) (w : World) :
    (Instr.index 143 (.agg (tls tl).toArray) (.int .i64 (k : Int))).run Try.prog w = .ok (.agg #[.int .i64 t.1, .int .u8 t.2]) w := by
  obtain ⟨h1, h2⟩ := tls_at tl k t ht
  have hu : Try.prog.underlying 143 = some (.array 21 142) := by kernel_rfl
  have hi : (Try.prog.info? 142).map (·.size) = some 2 := by kernel_rfl
  have hs := Try.underlying142
  have e3 : List.take 2 (List.drop (k * 2) (tls tl)) = [.int .i64 t.1, .int .u8 t.2] := by
    have hl : k * 2 + 1 < (tls tl).length := (List.getElem?_eq_some_iff.1 h2).1
    rw [List.getElem?_eq_getElem (by omega), Option.some_inj] at h1 h2
    rw [List.drop_eq_getElem_cons (by omega), List.drop_eq_getElem_cons (by omega), h1, h2]
    rfl
  cases hq : Try.prog.info? 142 with
  | none => simp [hq] at hi
  | some i =>
    have hz : i.size = 2 := by simpa [hq] using hi
    simp [Instr.index, asIntOf, Sem.run_bind, run_underlying hu, run_underlying hs, sizeOf, typeInfo, hq, hz, part, isAgg, hk, e3]
theorem valTo_big (K : List Nat) (tl : List Tl) {k : Nat} (hk : k ≤ 21) : (valTo K tl k).length ≤ 21 := Nat.le_trans (valTo_len K tl k) hk

set_option maxRecDepth 100000 in
set_option maxHeartbeats 3200000 in
theorem chosenI_any (g : Nat) (r : Rn) (w : World) (h : Inst w g r) (ho : runOk r = true) :
    Calls Try.prog 62 #[.pointer (some ⟨g, 0, none⟩)] w (New w (chosen r)) := by
  obtain ⟨i0, hi0, hz0, hz1, hz2⟩ := info_parts int_info
  obtain ⟨w1, A, B, c, d, hin, _, iB, hb1, hg1⟩ := h
  obtain ⟨hcm, _, hpr, _⟩ := runOk_parts ho
  obtain ⟨hK, hKl⟩ := fam_bits (cmpOk_parts hcm).2.1
  have iBw := iB.below hb1
  have HC := Lib.hid (chosen_eq ho)
  have hlt := hin.lt
  obtain ⟨K, hKe⟩ : ∃ K, K = msks r.Q := ⟨_, rfl⟩
  obtain ⟨tl, htl⟩ : ∃ tl, tl = tlOf r.pr := ⟨_, rfl⟩
  rw [← hKe, ← htl] at hin
  rw [← hKe] at hK hKl iBw
  have HT := Lib.hid (show ∀ k : Nat, k < 21 → tl[k]? = some (tlB r.pr (k : Int)) from fun k hk => by rw [htl]; exact tlOf_at _ hk)
  have HL := Lib.hid (show ∀ k : Nat, (tlB r.pr (k : Int)).2 < 64 from fun k => tlB_lt hpr _)
  have HV := Lib.hid (show ∀ k : Nat, k < 21 → valTo K tl (k + 1) = valTo K tl k ++ (if hasQ K (tlB r.pr (k : Int)).2 then [(tlB r.pr (k : Int)).1] else []) from fun k hk => by
    rw [valTo_succ, valB]
    simp only [List.getD, HT.out k hk, Option.getD_some])
  have HC2 := Lib.hid (show Lib.compact (ascI (valTo K tl 21)) = chosen r by rw [hKe, htl]; exact HC.out)
  have HIN := Lib.hid (And.intro hin iBw)
  have q1 := hin.c1
  have hrg : w.rangeAt g 20 (tls tl) := fun j v hv => by rw [hin.cell, ins_tl hin.2.1]; exact hv
  have hts : (tls tl).length = 42 := by rw [tls_len, hin.2.2]
  have hu : Try.prog.underlying 143 = some (.array 21 142) := by kernel_rfl
  have hi : (Try.prog.info? 143).map (·.size) = some (tls tl).length := by rw [hts]; kernel_rfl
  have hld : ∀ (ops : Array Oper) (rest : List Oper) (op : Oper) (a : Act) (Q : Exit → Act → World → Prop), op.guard = none → op.op = .load 143 (.tmp 8) → a.eval (.tmp 8) = .pointer (some ⟨g, 20, none⟩) → wpList Try.prog ops Q rest (a.put op.dst (.agg (tls tl).toArray)) w → wpList Try.prog ops Q (op :: rest) a w :=
    fun _ _ _ _ _ h1 h2 h3 h4 => wpList_load_mid h1 143 (.tmp 8) h2 g 20 h3 (tls tl) _ hrg hu rfl hi h4
  have HLD := Lib.hid hld
  clear hld
  have hix := tal_index tl
  obtain ⟨V, hV⟩ : ∃ V, V = (tls tl).toArray := ⟨_, rfl⟩
  rw [← hV] at hix HLD
  have HIX := Lib.hid hix
  clear hix hu hi hrg hts hin iBw iB hb1 hg1 HC hV hcm hpr hKe htl ho
  go_enter Try.func62, Try.ntmps62
  go_wp2_with (refine HLD.out _ _ _ _ _ rfl rfl rfl ?_)
  go_loopw [3, 10] (fun v i wr => ∃ (k : Nat) (A5 : Option Addr) (c5 : Nat), k ≤ 21 ∧ i = .int .i64 k ∧ v = .slice A5 (valTo K tl k).length c5 ∧ wr.ownsRow w.heap.size 3 1 (.slice A5 (valTo K tl k).length c5) (valTo K tl k).length ((valTo K tl k).map (Value.int .i64)) ∧ Below w.heap.size w wr) (fun _ i _ => 21 - (intOf i).toNat)
  case atStart => exact ⟨0, none, 0, by omega, rfl, rfl, World.ownsRow_nil _ _ _ _, Below.refl _ _⟩
  case round =>
    clear q1
    obtain ⟨k, A5, c5, hk, rfl, rfl, hown, hbel⟩ := hrel
    by_cases hlt21 : k < 21
    · have hkk : (k : Int) < 21 := by omega
      have hix := HIX.out k _ hlt21 (HT.out k hlt21)
      have hs64 := HL.out k
      have hv := HV.out k hlt21
      obtain ⟨t, ht⟩ : ∃ t, t = tlB r.pr (k : Int) := ⟨_, rfl⟩
      rw [← ht] at hix hs64 hv
      clear ht
      obtain ⟨t1, t2⟩ := t
      simp only at hix hs64 hv
      have ba := hbel.alloc hbel.size (.cells #[.int .i64 t1, .int .u8 t2] 142)
      have hown2 := hown.alloc (.cells #[.int .i64 t1, .int .u8 t2] 142)
      have c0 : (wr.alloc (.cells #[.int .i64 t1, .int .u8 t2] 142)).cell? ⟨wr.heap.size, 0, none⟩ = some (.int .i64 t1) := by rw [cell_of_row _ _ _ _ _ (0, 0) (heap_alloc_new wr _)]; rfl
      have c1 : (wr.alloc (.cells #[.int .i64 t1, .int .u8 t2] 142)).cell? ⟨wr.heap.size, 1, none⟩ = some (.int .u8 t2) := by rw [cell_of_row _ _ _ _ _ (0, 0) (heap_alloc_new wr _)]; rfl
      have HO := Lib.hid (And.intro ba (And.intro hown2 hv))
      have q1 := (HIN.out.1.below ba).c1
      have iB2 := HIN.out.2.below ba
      clear ba hown2 hown hbel hv
      go_wp2
      generalize wr.alloc (.cells #[.int .i64 t1, .int .u8 t2] 142) = wa at *
      have EQ : ∀ n, Calls Try.prog 114 #[.slice B K.length d, .int .u8 t2] (wa.drewN n) fun e w' => e = .returned (.bool (hasQ K t2)) ∧ wa.drewN n = w' := fun n => hasQuorum_any B d K t2 _ (iB2.below (below_drewN (Below.refl _ _) n)) (by omega) hK hs64
      have HB := fun n => Lib.hid (And.intro (own_at HO.out.2.1 (w' := wa.drewN n) fun _ _ => rfl) (And.intro (below_drewN HO.out.1 n) (show (wa.drewN n).cell? ⟨wr.heap.size, 0, none⟩ = some (.int .i64 t1) from c0)))
      have hvl := valTo_big K tl hk
      cases hq : hasQ K t2
      · rw [hq] at EQ
        have HE := Lib.hid (show valTo K tl (k + 1) = valTo K tl k by rw [HO.out.2.2, hq]; simp)
        clear hq
        go_quiet ((go_at_call 114; exact quiet_same (EQ _)))
        have HB2 := HB nq
        clear HB EQ iB2 q1 c0 c1
        go_wp2
        go_roundw
        case rel => exact ⟨k + 1, A5, c5, by omega, by go_num, by rw [HE.out], by rw [HE.out]; exact HB2.out.1, HB2.out.2.1⟩
        case measure => simp [intOf]; omega
      · rw [hq] at EQ
        have HE := Lib.hid (show valTo K tl (k + 1) = valTo K tl k ++ [t1] by rw [HO.out.2.2, hq]; simp)
        clear hq
        go_quiet ((go_at_call 114; exact quiet_same (EQ _)))
        have hw2 := (HB nq).out.1
        have hb2 := (HB nq).out.2.1
        have q0 := (HB nq).out.2.2
        clear HB EQ iB2 q1 c0 c1 HO
        generalize wa.drewN nq = wq at *
        have hsz := hb2.size
        go_wp2_with (at_builtin; refine wpList_append_own _ rfl (.tmp 20) (.tmp 23) 37 rfl w.heap.size 3 i0 (.int .i64 0) 1 8 Try.underlying37 hi0 hz0 hz1 hz2 rfl (by decide) _ _ _ rfl (hw2.alloc _) ⟨wq.heap.size, 0, none⟩ 1 1 [.int .i64 t1] rfl rfl (cell_one_new _ _ _) (ints_oneCell .i64 [t1]) (by unfold maxLen; omega) (by omega) (by simp; omega) ?_)
        intro v' w7 ho7 hg7 _
        have ho8 : w7.ownsRow w.heap.size 3 1 v' (valTo K tl (k + 1)).length ((valTo K tl (k + 1)).map (Value.int .i64)) := by
          rw [HE.out]
          simpa using ho7
        obtain ⟨A7, c7, rfl⟩ := own_slice ho8
        have hb7 : Below w.heap.size w w7 := (hb2.alloc hb2.size _).grown hg7 (by simp; omega) (fun g hg => by have := (hw2.lt g hg).1; omega)
        have HO := Lib.hid (And.intro ho8 hb7)
        clear ho7 hg7 ho8 hb7 hw2 hb2 q0
        go_wp2
        go_roundw
        case rel => exact ⟨k + 1, A7, c7, by omega, by go_num, rfl, HO.out.1, HO.out.2⟩
        case measure => simp [intOf]; omega
    · have hk9 : k = 21 := by omega
      have hdd : ¬ (k : Int) < 21 := by omega
      have hvl := valTo_big K tl hk
      have HC3 := Lib.hid (show Lib.compact (ascI (valTo K tl k)) = chosen r by rw [hk9]; exact HC2.out)
      have hlen : (ascI (valTo K tl k)).length = (valTo K tl k).length := List.length_mergeSort _
      clear hk9 HC2 hlt21
      go_wp2_with fail
      refine (sort_own A5 c5 _ _ hown (by omega)).mono ?_
      rintro e w2 ⟨rfl, ho2, hg2⟩
      have hb2 : Below w.heap.size w w2 := hbel.grown hg2 hbel.size (fun g hg => (hown.lt g hg).1)
      clear hown hg2 hbel
      go_wp2_with fail
      refine (compact_own A5 c5 _ _ _ hlen ho2 (by omega)).mono ?_
      rintro e w3 ⟨rfl, ho3, hg3⟩
      have hb3 : Below w.heap.size w w3 := hb2.grown hg3 hb2.size (fun g hg => (ho2.lt g hg).1)
      rw [HC3.out] at ho3 ⊢
      have HO := Lib.hid (And.intro ho3 hb3)
      clear ho2 ho3 hb2 hb3 hg3
      go_wp2
      go_ret
      exact ⟨A5, c5, rfl, HO.out.1, HO.out.2⟩
end Go.Proofs.Ytbkdhjmfphhhoaa

/- The chosen values of a run, both ways, by contracts. -/
namespace Go.Proofs.Ytbkdhjmfphhhoaa
open Go.RowKit

def chosenR (r : Rn) : List Int := if runOk r then chosen r else []
theorem chosenR_yes {r : Rn} (h : runOk r = true) : chosenR r = chosen r := by simp [chosenR, h]
theorem chosenR_no {r : Rn} (h : runOk r = false) : chosenR r = [] := by simp [chosenR, h]
theorem chosenR_len (r : Rn) : (chosenR r).length ≤ 99 := by
  unfold chosenR
  split
  · exact chTo_len r 99
  · simp
theorem New.empty {w w1 : World} (hb : Below w.heap.size w w1) : New w [] (.returned (.slice (some ⟨w1.heap.size, 0, none⟩) 0 0)) (w1.alloc (.cells #[] 3)) :=
  ⟨_, _, rfl, World.ownsRow_made (base := w.heap.size) (size := 1) (e := 3) w1 #[] 0 hb.size (by unfold maxLen; omega) (by simp), hb.alloc hb.size _⟩
theorem New.nil0 {w w1 : World} (hb : Below w.heap.size w w1) : New w [] (.returned (.slice none 0 0)) w1 :=
  ⟨none, 0, rfl, World.ownsRow_nil _ _ _ _, hb⟩

set_option maxRecDepth 100000 in
set_option maxHeartbeats 1600000 in
theorem specChosen_any (A B C D : Option Addr) (c d e f : Nat) (r : Rn) (w : World) (h : Reads w A B C D r) (hl : RLen r 1048576) :
    Calls Try.prog 47 #[RVal A B C D c d e f r] w (New w (chosenR r)) := by
  have ba : Below w.heap.size w (w.alloc (.cells #[.slice A r.P.length c, .slice B r.Q.length d, .slice C r.ac.length e, .slice D r.pr.length f] 30)) := (Below.refl _ w).alloc (Nat.le_refl _) _
  have rb := RB.new w (.slice A r.P.length c) (.slice B r.Q.length d) (.slice C r.ac.length e) (.slice D r.pr.length f) 30
  go_enter Try.func47, Try.ntmps47
  go_wp2_with fail
  refine (specRunValid_any _ _ _ _ _ _ _ _ _ _ (h.below ba) hl).mono ?_
  rintro e w1 ⟨rfl, b1⟩
  have B1 := below_step ba b1
  have r1 := rb.below b1
  have q0 := r1.c0
  have q1 := r1.c1
  have q2 := r1.c2
  have q3 := r1.c3
  clear ba b1 rb
  cases ho : runOk r
  · have HE := Lib.hid (show New w (chosenR r) (.returned (.slice (some ⟨w1.heap.size, 0, none⟩) 0 0)) (w1.alloc (.cells #[] 3)) by rw [chosenR_no ho]; exact New.empty B1)
    clear ho
    go_wp2
    go_ret
    exact HE.out
  · have HE := Lib.hid (chosenR_yes ho)
    clear ho
    go_wp2_with fail
    refine (l22Chosen_any _ _ _ _ _ _ _ _ _ _ (h.below B1) hl).mono ?_
    rintro e w2 hn
    have hn := hn.later B1
    rw [← HE.out] at hn
    obtain ⟨A5, c5, rfl, h5⟩ := hn
    have H5 := Lib.hid h5
    clear h5 q0 q1 q2 q3 r1 B1
    go_wp2
    go_ret
    exact ⟨A5, c5, rfl, H5.out⟩

set_option maxRecDepth 100000 in
set_option maxHeartbeats 1600000 in
theorem implChosen_any (A B C D : Option Addr) (c d e f : Nat) (r : Rn) (w : World) (h : Reads w A B C D r) (hl : RLen r 1048576) :
    Calls Try.prog 20 #[RVal A B C D c d e f r] w (New w (chosenR r)) := by
  have ba : Below w.heap.size w (w.alloc (.cells #[.slice A r.P.length c, .slice B r.Q.length d, .slice C r.ac.length e, .slice D r.pr.length f] 30)) := (Below.refl _ w).alloc (Nat.le_refl _) _
  go_enter Try.func20, Try.ntmps20
  go_wp2_with fail
  refine (insOf_any _ _ _ _ _ _ _ _ _ _ (h.below ba) hl).mono ?_
  rintro e w1 ⟨b1, ⟨ho, rfl⟩ | ⟨ho, g, rfl, _, hI⟩⟩
  · have HE := Lib.hid (show New w (chosenR r) (.returned (.slice none 0 0)) w1 by rw [chosenR_no ho]; exact New.nil0 (below_step ba b1))
    clear ho ba b1
    go_wp2
    go_ret
    exact HE.out
  · have HE := Lib.hid (And.intro (below_step ba b1) (chosenR_yes ho))
    have HI := Lib.hid (And.intro hI ho)
    clear ho ba b1 hI
    go_wp2_with fail
    refine (chosenI_any g r _ HI.out.1 HI.out.2).mono ?_
    rintro e w2 hn
    have hn := hn.later HE.out.1
    rw [← HE.out.2] at hn
    obtain ⟨A5, c5, rfl, h5⟩ := hn
    have H5 := Lib.hid h5
    clear h5
    go_wp2
    go_ret
    exact ⟨A5, c5, rfl, H5.out⟩
end Go.Proofs.Ytbkdhjmfphhhoaa

/- Marks in lists of acceptors, by contracts. -/
namespace Go.Proofs.Ytbkdhjmfphhhoaa
open Go.RowKit

def markA1 (k : Nat) : Ac := ((k : Int), (k : Int) + 1, (k : Int) + 1 + 1)
def marksA (k n : Nat) : List Ac := (List.range n).map fun i => markA1 (k + i * 3)
theorem marksA_len (k n : Nat) : (marksA k n).length = n := by simp [marksA]
theorem marksA_at (k n j : Nat) (h : j < n) : (marksA k n)[j]? = some (markA1 (k + j * 3)) := by simp [marksA, h]
def mkA (l : List Ac) (k j : Nat) : List Ac := marksA k j ++ l.drop j
theorem mkA_len {l : List Ac} {k j : Nat} (h : j ≤ l.length) : (mkA l k j).length = l.length := by simp [mkA, marksA_len]; omega
theorem mkA_set (l : List Ac) (k j : Nat) (h : j < l.length) : (mkA l k j).set j (markA1 (k + j * 3)) = mkA l k (j + 1) := by
  unfold mkA
  rw [List.set_append_right _ _ (by simp [marksA_len])]
  simp [marksA, List.range_succ]
  rw [List.drop_eq_getElem_cons h]
  rfl
theorem mkA_none (l : List Ac) (k : Nat) : mkA l k 0 = l := by simp [mkA, marksA]
theorem mkA_all (l : List Ac) (k n : Nat) (h : n = l.length) : mkA l k n = marksA k n := by subst h; simp [mkA]

set_option maxRecDepth 100000 in
set_option maxHeartbeats 800000 in
theorem markAccS_own (lo hi : Nat) (A : Option Addr) (c : Nat) (l : List Ac) (k : Nat) (K : Int) (hK : K = (k : Int)) (w : World) (ha : OAS w lo hi A c l) (hl : l.length ≤ 1048576) (hk : k ≤ 8388608) :
    Calls Try.prog 90 #[.slice A l.length c, .int .i64 K] w fun e w' =>
      e = .returned (.int .i64 (K + ((l.length * 3 : Nat) : Int))) ∧ OAS w' lo hi A c (marksA k l.length) ∧ Keep lo hi w w' := by
  subst hK
  obtain ⟨T, ho, hh, hout⟩ := ha
  have H0 := Lib.hid (And.intro ho (And.intro hh hout))
  clear ho hh hout
  go_enter Try.func90, Try.ntmps90
  go_wp2
  go_loopw [1, 5] (fun q i wr => ∃ j : Nat, j ≤ l.length ∧ i = .int .i64 j ∧ q = .int .i64 ((k + j * 3 : Nat) : Int) ∧ wr.ownsRow lo T 3 (.slice A l.length c) l.length (acs (mkA l k j)) ∧ Hid (w.grownBy wr (Value.slice A l.length c).ownBlock)) (fun _ i _ => l.length - (intOf i).toNat)
  case atStart => exact ⟨0, Nat.zero_le _, rfl, by simp, by rw [mkA_none]; exact H0.out.1, World.grownBy.refl _ _⟩
  case round =>
    obtain ⟨j, hj, rfl, rfl, hown, hgr⟩ := hrel
    by_cases hlt : j < l.length
    · obtain ⟨g, rfl, hbg, hg⟩ := own_form hown (by omega)
      have hx : ∀ i, i < 3 → ∃ u, wr.cell? ⟨g, j * 3 + i, none⟩ = some u := fun i hi => ⟨_, (hown.cellAt (j * 3 + i) (by omega)).trans (List.getElem?_eq_getElem (by have := hown.1; omega))⟩
      obtain ⟨u0, d0⟩ := hx 0 (by omega)
      obtain ⟨u1, d1⟩ := hx 1 (by omega)
      obtain ⟨u2, d2⟩ := hx 2 (by omega)
      rw [Nat.add_zero] at d0
      have z0 := hown.frozenAt (j * 3)
      have z1 := hown.frozenAt (j * 3 + 1)
      have z2 := hown.frozenAt (j * 3 + 2)
      have hki : (0 : Int) ≤ (j : Int) := by omega
      have hki2 : (j : Int) < (l.length : Int) := by omega
      have S1 := hown.stored (j * 3) (.int .i64 ((k + j * 3 : Nat) : Int))
      have S2 := S1.1.stored (j * 3 + 1) (.int .i64 (((k + j * 3 : Nat) : Int) + 1))
      have S3 := S2.1.stored (j * 3 + 2) (.int .i64 (((k + j * 3 : Nat) : Int) + 1 + 1))
      have he := acs_set (mkA l k j) j (markA1 (k + j * 3)) (by rw [mkA_len hj]; exact hlt)
      rw [mkA_set l k j hlt] at he
      have R := Lib.hid (And.intro (show _ from he ▸ S3.1) (grown_store (grown_store (grown_store hgr.out (j * 3) (.int .i64 ((k + j * 3 : Nat) : Int))) (j * 3 + 1) (.int .i64 (((k + j * 3 : Nat) : Int) + 1))) (j * 3 + 2) (.int .i64 (((k + j * 3 : Nat) : Int) + 1 + 1))))
      clear hown hgr S1 S2 S3 he hx
      go_wp2
      go_roundw
      case rel => exact ⟨j + 1, by omega, by go_num, by go_num, R.out.1, Lib.hid R.out.2⟩
      case measure => simp [intOf]; omega
    · have hkl : j = l.length := by omega
      subst hkl
      rw [mkA_all l k _ rfl] at hown
      have HR := Lib.hid (show OAS wr lo hi A c (marksA k l.length) ∧ Keep lo hi w wr from
        ⟨⟨T, by rw [marksA_len]; exact hown, Nat.le_trans H0.out.2.1 hgr.out.size, fun g hg => H0.out.2.2 g (by rw [marksA_len] at hg; exact hg)⟩, Keep.of_grown hgr.out fun g hg => H0.out.2.2 g hg⟩)
      clear hown hgr
      go_wp2
      go_ret
      exact ⟨ret_int (by omega), HR.out⟩
end Go.Proofs.Ytbkdhjmfphhhoaa

/- Marks in lists of proposals, by contracts. -/
namespace Go.Proofs.Ytbkdhjmfphhhoaa
open Go.RowKit

def markP1 (k n : Nat) : Pr := ((k : Int), (k : Int) + 1, marks (k + 2) n)
def wtP (l : List Pr) : Nat := l.length * 2 + wt (pvs l)
def markP : Nat → List Pr → List Pr
  | _, [] => []
  | k, p :: l => markP1 k p.2.2.length :: markP (k + 2 + p.2.2.length) l
theorem markP_len (l : List Pr) : ∀ k, (markP k l).length = l.length := by
  induction l with
  | nil => intro k; rfl
  | cons p l ih => intro k; simp [markP, ih]
theorem wtP_cons (p : Pr) (l : List Pr) : wtP (p :: l) = 2 + p.2.2.length + wtP l := by
  simp [wtP, pvs, wt]
  omega
theorem wtP_snoc (l : List Pr) (p : Pr) : wtP (l ++ [p]) = wtP l + 2 + p.2.2.length := by
  induction l with
  | nil => simp [wtP, pvs, wt]
  | cons q l ih => rw [List.cons_append, wtP_cons, ih, wtP_cons]; omega
theorem wtP_take {l : List Pr} {j : Nat} {p : Pr} (h : l[j]? = some p) : wtP (l.take (j + 1)) = wtP (l.take j) + 2 + p.2.2.length := by rw [take_p h, wtP_snoc]
theorem wtP_le (l : List Pr) (j : Nat) : wtP (l.take j) ≤ wtP l := by
  induction l generalizing j with
  | nil => simp
  | cons p l ih =>
    cases j with
    | zero => simp [wtP, pvs, wt]
    | succ j => rw [List.take_succ_cons, wtP_cons, wtP_cons]; have := ih j; omega
theorem markP_snoc (l : List Pr) (p : Pr) : ∀ k, markP k (l ++ [p]) = markP k l ++ [markP1 (k + wtP l) p.2.2.length] := by
  induction l with
  | nil => intro k; simp [markP, wtP, pvs, wt]
  | cons a l ih =>
    intro k
    rw [List.cons_append, markP, ih, markP, List.cons_append, wtP_cons, show k + 2 + a.2.2.length + wtP l = k + (2 + a.2.2.length + wtP l) by omega]
def mkP (l : List Pr) (k j : Nat) : List Pr := markP k (l.take j) ++ l.drop j
theorem mkP_zero (l : List Pr) (k : Nat) : mkP l k 0 = l := by simp [mkP, markP]
theorem mkP_all (l : List Pr) (k : Nat) : mkP l k l.length = markP k l := by simp [mkP]
theorem mkP_len (l : List Pr) (k j : Nat) : (mkP l k j).length = l.length := by simp [mkP, markP_len]; omega
theorem mkP_at {l : List Pr} {k j : Nat} {p : Pr} (h : l[j]? = some p) : (mkP l k j)[j]? = some p := by
  have hj : j < l.length := (List.getElem?_eq_some_iff.1 h).1
  unfold mkP
  rw [List.getElem?_append_right (by rw [markP_len]; simp; omega), markP_len]
  simp [Nat.min_eq_left (Nat.le_of_lt hj), h]
theorem mkP_set {l : List Pr} {k j : Nat} {p : Pr} (h : l[j]? = some p) : mkP l k (j + 1) = (mkP l k j).set j (markP1 (k + wtP (l.take j)) p.2.2.length) := by
  have hj : j < l.length := (List.getElem?_eq_some_iff.1 h).1
  unfold mkP
  rw [take_p h, markP_snoc, List.set_append_right _ _ (by rw [markP_len]; simp; omega), markP_len]
  simp only [List.length_take, Nat.min_eq_left (Nat.le_of_lt hj), Nat.sub_self]
  have : l.drop j = p :: l.drop (j + 1) := by
    rw [List.drop_eq_getElem_cons hj]; congr 1; exact Option.some.inj ((List.getElem?_eq_getElem hj).symm.trans h)
  rw [this]
  simp
theorem pcs_set : ∀ (l : List Pr) (vs : List Value) (k : Nat) (x y : Int) (z : List Int), vs.length = l.length → k < l.length → ((pcs l vs).set (k * 3) (.int .i64 x)).set (k * 3 + 1) (.int .i64 y) = pcs (l.set k (x, y, z)) vs
  | [], _, k, x, y, z, _, h => by simp at h
  | p :: l, [], k, x, y, z, h, _ => by simp at h
  | p :: l, v :: vs, 0, x, y, z, _, _ => by simp [pcs]
  | p :: l, v :: vs, k + 1, x, y, z, h, h2 => by
    have := pcs_set l vs k x y z (by simpa using h) (by simpa using h2)
    rw [pcs, show (k + 1) * 3 = k * 3 + 1 + 1 + 1 by omega, show k * 3 + 1 + 1 + 1 + 1 = (k * 3 + 1) + 1 + 1 + 1 by omega]
    simp only [List.set_cons_succ, this, pcs]
theorem pvs_set (l : List Pr) (k : Nat) (p : Pr) : pvs (l.set k p) = (pvs l).set k p.2.2 := by simp [pvs, List.map_set]
/-- One row of votes is written over: the row of proposals and the others stand. -/
theorem rws_mark {w w' : World} {lo hi : Nat} {F : List (List Int)} {rs : List Value} {j : Nat} {l m : List Int} {B : Option Addr} {d : Nat}
    (hh : hi ≤ w.heap.size) (hr : Rws w lo hi F rs) (hl : F[j]? = some l) (hv : rs[j]? = some (.slice B l.length d)) (hm : m.length = l.length)
    (hw : w'.ownsRow lo 3 1 (.slice B l.length d) l.length (m.map (Value.int .i64))) (hg : w.grownBy w' (Value.slice B l.length d).ownBlock) :
    Rws w' lo hi (F.set j m) rs := by
  have hj : j < F.length := (List.getElem?_eq_some_iff.1 hl).1
  obtain ⟨B', d', e', hown⟩ := hr.2.1 j l _ hl hv
  injection e' with e1 _ e2
  subst e1 e2
  refine ⟨by rw [List.length_set]; exact hr.1, fun i l' v hl' hv' => ?_, hr.2.2⟩
  by_cases hij : i = j
  · subst hij
    rw [List.getElem?_set_self hj] at hl'
    obtain rfl := Option.some.inj hl'
    rw [hv] at hv'
    obtain rfl := Option.some.inj hv'
    exact ⟨B, d, by rw [hm], by rw [hm]; exact hw, Nat.le_trans hh hg.size, fun g hg' => hown.2.2 g (by rw [hm] at hg'; exact hg')⟩
  · rw [List.getElem?_set_ne (fun e => hij e.symm)] at hl'
    obtain ⟨A', c', rfl, ho'⟩ := hr.2.1 i l' v hl' hv'
    refine ⟨A', c', rfl, ho'.at_ (Nat.le_trans hh hg.size) fun g h1 h2 h3 => hg.block g (by omega) fun e => ?_⟩
    exact asc_ne hr.2.2 hij hv' hv h3 e.symm
theorem own_obj {w : World} {lo e n size : Nat} {v : Value} {xs : List Value} (h : w.ownsRow lo e size v n xs) : ∀ g, v.ownBlock = some g → ∃ cur, w.heap[g]? = some (.cells cur e (0, 0)) := by
  intro g hg
  rcases h.2 with ⟨rfl, _⟩ | ⟨g', cap, cur, rfl, _, hh, _⟩
  · cases hg
  · cases hg
    exact ⟨cur, hh⟩
theorem own_other {w : World} {lo lo2 e e2 n m s t : Nat} {v u : Value} {xs ys : List Value} (ho : w.ownsRow lo e s v n xs) (h2 : w.ownsRow lo2 e2 t u m ys) (hne : e ≠ e2) : ∀ g, v.ownBlock = some g → u.ownBlock ≠ some g := by
  intro g hg' h
  obtain ⟨cur, h1⟩ := own_obj ho g hg'
  obtain ⟨cur2, h3⟩ := own_obj h2 g h
  rw [h1] at h3
  injection h3 with h3
  injection h3 with _ h3
  exact hne h3
theorem ty_ne : 49 ≠ 3 := by decide

theorem markI_i (base : Nat) (A : Option Addr) (c : Nat) (l : List Int) (k : Nat) (K : Int) (hK : K = (k : Int)) (w : World) (ha : w.ownsRow base 3 1 (.slice A l.length c) l.length (l.map (Value.int .i64))) (hl : l.length ≤ 1048576) (hk : k ≤ 1073741824) :
    Calls Try.prog 46 #[.slice A l.length c, .int .i64 K] w fun e w' =>
      e = .returned (.int .i64 (K + l.length)) ∧ w'.ownsRow base 3 1 (.slice A l.length c) l.length ((marks k l.length).map (Value.int .i64)) ∧ w.grownBy w' (Value.slice A l.length c).ownBlock := by
  subst hK
  refine (markIntS_own base A c l k w ha hl hk).mono fun e w' ⟨he, h⟩ => ⟨?_, h⟩
  rw [he, Int.natCast_add]
set_option maxRecDepth 100000 in
set_option maxHeartbeats 1600000 in
theorem markPrS_own (lo hi : Nat) (A : Option Addr) (c : Nat) (l : List Pr) (k : Nat) (K : Int) (hK : K = (k : Int)) (w : World) (ha : OPS w lo hi A c l) (hl : l.length ≤ 1048576) (hs : wtP l ≤ 8388608) (hv : Short (pvs l) 1048576) (hk : k ≤ 16777216) :
    Calls Try.prog 91 #[.slice A l.length c, .int .i64 K] w fun e w' =>
      e = .returned (.int .i64 (K + wtP l)) ∧ OPS w' lo hi A c (markP k l) ∧ Keep lo hi w w' := by
  subst hK
  obtain ⟨vs, ho, hh, hout, hr⟩ := ha
  have hvl : vs.length = l.length := by rw [hr.1, pvs_len]
  have H0 := Lib.hid (And.intro ho (And.intro hh (And.intro hout hr)))
  have HSh := Lib.hid hv
  clear ho hh hout hr hv
  go_enter Try.func91, Try.ntmps91
  go_wp2
  go_loopw [1, 5] (fun q i wr => ∃ j : Nat, j ≤ l.length ∧ i = .int .i64 j ∧ q = .int .i64 ((k + wtP (l.take j) : Nat) : Int) ∧ Hid (wr.ownsRow lo 49 3 (.slice A l.length c) l.length (pcs (mkP l k j) vs) ∧ Rws wr lo hi (pvs (mkP l k j)) vs ∧ Keep lo hi w wr)) (fun _ i _ => l.length - (intOf i).toNat)
  case atStart => exact ⟨0, Nat.zero_le _, rfl, rfl, by rw [mkP_zero]; exact H0.out.1, by rw [mkP_zero]; exact H0.out.2.2.2, Keep.refl _ _ _⟩
  case round =>
    obtain ⟨j, hj, rfl, rfl, hrest⟩ := hrel
    by_cases hlt : j < l.length
    · obtain ⟨p, hx⟩ : ∃ p, l[j]? = some p := ⟨_, List.getElem?_eq_getElem hlt⟩
      have hown := hrest.out.1
      have hrows := hrest.out.2.1
      have hkeep := hrest.out.2.2
      obtain ⟨g, rfl, hbg, hg⟩ := own_form hown (by omega)
      obtain ⟨v, hv⟩ : ∃ v, vs[j]? = some v := ⟨_, List.getElem?_eq_getElem (by omega)⟩
      obtain ⟨B, d, rfl, hB⟩ := hrows.2.1 j p.2.2 v (pvs_at (mkP_at hx)) hv
      obtain ⟨e0, e1, e2⟩ := pcs_at (mkP_at (k := k) hx) hv
      have d0 : wr.cell? ⟨g, j * 3, none⟩ = some (.int .i64 p.1) := (hown.cellAt _ (by omega)).trans e0
      have d1 : wr.cell? ⟨g, j * 3 + 1, none⟩ = some (.int .i64 p.2.1) := (hown.cellAt _ (by omega)).trans e1
      have d2 : wr.cell? ⟨g, j * 3 + 2, none⟩ = some (.slice B p.2.2.length d) := (hown.cellAt _ (by omega)).trans e2
      have z0 := hown.frozenAt (j * 3)
      have z1 := hown.frozenAt (j * 3 + 1)
      have hki : (0 : Int) ≤ (j : Int) := by omega
      have hki2 : (j : Int) < (l.length : Int) := by omega
      have hw1 := wtP_take hx
      have hw2 := wtP_le l (j + 1)
      have hpl := PL.short HSh.out hx
      have hms := mkP_set (k := k) hx
      obtain ⟨W, hW⟩ : ∃ W : Nat, W = k + wtP (l.take j) := ⟨_, rfl⟩
      rw [← hW] at hms ⊢
      have S1 := hown.stored (j * 3) (.int .i64 (W : Int))
      have S2 := S1.1.stored (j * 3 + 1) (.int .i64 ((W : Int) + 1))
      have S12 := S1.2.trans S2.2
      have he := fun z => pcs_set (mkP l k j) vs j (W : Int) ((W : Int) + 1) z (by rw [hvl, mkP_len]) (by rw [mkP_len]; exact hlt)
      have hne := own_other hown hB.1 ty_ne
      have hB2 := own_at hB.1 (w' := (wr.setCell ⟨g, j * 3, none⟩ (.int .i64 (W : Int))).setCell ⟨g, j * 3 + 1, none⟩ (.int .i64 ((W : Int) + 1))) fun g' hg' => S12.block g' ((hB.1.lt g' hg').2) (fun e => by injection e with e; subst e; exact hne _ rfl hg')
      have hrw2 : Rws ((wr.setCell ⟨g, j * 3, none⟩ (.int .i64 (W : Int))).setCell ⟨g, j * 3 + 1, none⟩ (.int .i64 ((W : Int) + 1))) lo hi (pvs (mkP l k j)) vs := by
        refine ⟨hrows.1, fun i l' v' h1 h2 => ?_, hrows.2.2⟩
        obtain ⟨A', c', rfl, o'⟩ := hrows.2.1 i l' v' h1 h2
        have hne' := own_other hown o'.1 ty_ne
        exact ⟨A', c', rfl, o'.at_ (Nat.le_trans (Nat.le_trans H0.out.2.1 hkeep.size) S12.size) fun g' h3 h4 h5 => S12.block g' (o'.1.lt g' h5).2 (fun e => by injection e with e; subst e; exact hne' _ rfl h5)⟩
      have hw0 : Keep lo hi w ((wr.setCell ⟨g, j * 3, none⟩ (.int .i64 (W : Int))).setCell ⟨g, j * 3 + 1, none⟩ (.int .i64 ((W : Int) + 1))) := hkeep.trans (Keep.of_grown S12 fun g' hg' => by
        have e : g = g' := by injection hg'
        subst e; exact H0.out.2.2.1 _ rfl)
      have hB3 := own_other S2.1 hB2 ty_ne
      have HX := Lib.hid (And.intro hx (And.intro hv (And.intro (he (marks (W + 2) p.2.2.length)) (And.intro S2.1 (And.intro hrw2 (And.intro hw0 (And.intro hms hB3)))))))
      have hb9 : W ≤ 25165824 := by omega
      have HQ := Lib.hid (show (W : Int) + 1 + 1 + (p.2.2.length : Int) = ((k + wtP (l.take (j + 1)) : Nat) : Int) by omega)
      clear hx hv hown hrows hB e0 e1 e2 S1 S2 S12 he hne hrw2 hw0 hkeep hrest hms hB3 hw1 hw2 hW
      go_wp2_with fail
      refine (markI_i _ _ _ _ (W + 2) _ (by omega) _ hB2 hpl (by omega)).mono ?_
      rintro e w2 ⟨rfl, hm, hgr⟩
      have HS := Lib.hid (show w2.ownsRow lo 49 3 (.slice (some ⟨g, 0, none⟩) l.length c) l.length (pcs (mkP l k (j + 1)) vs) ∧ Rws w2 lo hi (pvs (mkP l k (j + 1))) vs ∧ Keep lo hi w w2 by
        obtain ⟨x1, x2, x3, x4, x5, x6, x7, x8⟩ := HX.out
        have hr2 := rws_mark (Nat.le_trans H0.out.2.1 x6.size) x5 (pvs_at (mkP_at x1)) x2 (marks_len _ _) hm hgr
        refine ⟨?_, ?_, x6.trans (Keep.of_grown hgr fun g' hg' => ?_)⟩
        · have h4 := own_at (w' := w2) x4 fun g' hg' => hgr.block g' (x4.lt g' hg').2 fun e => x8 g' hg' e.symm
          rw [x3] at h4
          rw [x7]
          exact h4
        · rw [x7, pvs_set]
          exact hr2
        · obtain ⟨B', d', e', hB'⟩ := x5.2.1 j _ _ (pvs_at (mkP_at x1)) x2
          injection e' with e1 _ e2
          subst e1 e2
          exact hB'.2.2 g' hg')
      clear hm hgr hB2 d0 d1 d2 z0 z1
      go_wp2
      go_roundw
      case rel => exact ⟨j + 1, by omega, by go_num, (by refine congrArg (Value.int .i64) ?_; have := HQ.out; omega), HS.out⟩
      case measure => simp [intOf]; omega
    · have hkl : j = l.length := by omega
      subst hkl
      have HS := Lib.hid (show OPS wr lo hi A c (markP k l) ∧ Keep lo hi w wr by
        have h := hrest.out
        rw [mkP_all] at h
        exact ⟨⟨vs, by rw [markP_len]; exact h.1, Nat.le_trans H0.out.2.1 h.2.2.size, fun g hg => H0.out.2.2.1 g (by rw [markP_len] at hg; exact hg), h.2.1⟩, h.2.2⟩)
      clear hrest
      rw [List.take_length]
      go_wp2
      go_ret
      exact ⟨ret_int (by omega), HS.out⟩
end Go.Proofs.Ytbkdhjmfphhhoaa

/- Marks in a run, by contracts. -/
namespace Go.Proofs.Ytbkdhjmfphhhoaa
open Go.RowKit

def wtR (r : Rn) : Nat := wt r.P + wt r.Q + r.ac.length * 3 + wtP r.pr
def markR (k : Nat) (r : Rn) : Rn := ⟨markSS k r.P, markSS (k + wt r.P) r.Q, marksA (k + wt r.P + wt r.Q) r.ac.length, markP (k + wt r.P + wt r.Q + r.ac.length * 3) r.pr⟩
theorem rsz_wt {r : Rn} (h : rsz r ≤ 1048576) : wt r.P ≤ 1048576 ∧ wt r.Q ≤ 1048576 ∧ wtP r.pr ≤ 8388608 := by
  unfold rsz at h
  unfold wtP
  refine ⟨by omega, by omega, by omega⟩

set_option maxRecDepth 100000 in
set_option maxHeartbeats 1600000 in
theorem markRun_own (lo hi : Nat) (A B C D : Option Addr) (c d e f : Nat) (r : Rn) (k : Nat) (K : Int) (hK : K = (k : Int)) (w : World) (h : ORun w lo hi A B C D c d e f r) (hl : rsz r ≤ 1048576) (hk : k ≤ 1) :
    Calls Try.prog 40 #[RVal A B C D c d e f r, .int .i64 K] w fun x w' =>
      x = .returned (.int .i64 (K + wt r.P + wt r.Q + ((r.ac.length * 3 : Nat) : Int) + wtP r.pr)) ∧ ORun w' lo hi A B C D c d e f (markR k r) ∧ Keep lo hi w w' := by
  have HL := Lib.hid (rsz_len hl)
  have HW := Lib.hid (rsz_wt hl)
  have HK := Lib.hid (And.intro hK hk)
  have ba : Below w.heap.size w (w.alloc (.cells #[.slice A r.P.length c, .slice B r.Q.length d, .slice C r.ac.length e, .slice D r.pr.length f] 30)) := (Below.refl _ w).alloc (Nat.le_refl _) _
  have rb := RB.new w (.slice A r.P.length c) (.slice B r.Q.length d) (.slice C r.ac.length e) (.slice D r.pr.length f) 30
  obtain ⟨p0, p1, p2, p3, s0, s1, y0, y1, y2, y3, y4, y5, y6, y7, y8, y9, h1, h2, h3, h4⟩ := h
  have HY := Lib.hid (show lo ≤ p0 ∧ p0 ≤ p1 ∧ p1 ≤ p2 ∧ p2 ≤ p3 ∧ p3 ≤ hi ∧ lo ≤ s0 ∧ s0 ≤ s1 ∧ s1 ≤ hi ∧ hi ≤ w.heap.size ∧ (s1 ≤ p0 ∨ p3 ≤ s0) from ⟨y0, y1, y2, y3, y4, y5, y6, y7, y8, y9⟩)
  have g1 := h1.below ba
  have g2 := h2.below ba
  have g3 := h3.below ba
  have g4 := h4.below ba
  clear hl hK hk h1 h2 h3 h4 y0 y1 y2 y3 y4 y5 y6 y7 y8 y9
  go_enter Try.func40, Try.ntmps40
  go_wp2_with fail
  refine (markConfig_own p0 p1 p2 _ _ _ _ _ _ k K HK.out.1 _ g1 g2 (by have := HY.out; omega) (by have := HY.out; omega) HL.out.P HW.out.1 HL.out.Q HW.out.2.1 (by have := HW.out; have := HK.out; omega)).mono ?_
  rintro x w1 ⟨rfl, o1, o2, k1⟩
  have o3 := g3.keep k1 (.inr (Nat.le_refl _))
  have o4 := g4.keep k1 (by have := HY.out; omega)
  have r1 := rb.kept (k1.block _ (by simp) (by have := HY.out; omega))
  have kk := (Keep.of_below lo hi ba).trans (k1.wide (by have := HY.out; omega) (by have := HY.out; omega))
  have q2 := r1.c2
  clear g1 g2 g3 g4 rb ba k1
  go_wp2_with fail
  refine (markAccS_own p2 p3 _ _ _ (k + wt r.P + wt r.Q) _ (by have := HK.out; omega) _ o3 HL.out.ac (by have := HW.out; have := HK.out; omega)).mono ?_
  rintro x w2 ⟨rfl, o5, k2⟩
  have o6 := o1.keep k2 (by have := HY.out; omega)
  have o7 := o2.keep k2 (by have := HY.out; omega)
  have o8 := o4.keep k2 (by have := HY.out; omega)
  have r2 := r1.kept (k2.block _ r1.lt (by have := HY.out; omega))
  have kk2 := kk.trans (k2.wide (by have := HY.out; omega) (by have := HY.out; omega))
  have q3 := r2.c3
  clear o1 o2 o3 o4 q2 r1 kk k2
  go_wp2_with fail
  refine (markPrS_own s0 s1 _ _ _ (k + wt r.P + wt r.Q + r.ac.length * 3) _ (by have := HK.out; omega) _ o8 HL.out.pr HW.out.2.2 HL.out.sv (by have := HW.out; have := HK.out; have := HL.out.ac; omega)).mono ?_
  rintro x w3 ⟨rfl, o9, k3⟩
  have HE := Lib.hid (show ORun w3 lo hi A B C D c d e f (markR k r) ∧ Keep lo hi w w3 by
    have y := HY.out
    have kk3 := kk2.trans (k3.wide (by omega) (by omega))
    refine ⟨⟨p0, p1, p2, p3, s0, s1, y.1, y.2.1, y.2.2.1, y.2.2.2.1, y.2.2.2.2.1, y.2.2.2.2.2.1, y.2.2.2.2.2.2.1, y.2.2.2.2.2.2.2.1, Nat.le_trans y.2.2.2.2.2.2.2.2.1 kk3.size, y.2.2.2.2.2.2.2.2.2, o6.keep k3 (by omega), o7.keep k3 (by omega), o5.keep k3 (by omega), o9⟩, kk3⟩)
  clear o5 o6 o7 o8 o9 k3 kk2 q3 r2
  go_wp2
  go_ret
  exact ⟨rfl, HE.out⟩
end Go.Proofs.Ytbkdhjmfphhhoaa
