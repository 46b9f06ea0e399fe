/- The minimal sets that meet every quorum, the program's, by their contract. -/
import Derived.Test.YtgbijndfpbcjeaaWhere0
import Derived.Test.YtgbijndfpbcjeaaMeets
namespace Go.Proofs.Ytgbijndfpbcjeaa
open Go.RowKit Go.Shelf
attribute [local go_sem] Oper.semAt_some

set_option maxRecDepth 100000 in
set_option maxHeartbeats 3200000 in
theorem whereT (A : Option Addr) (c : Nat) (K : List Nat) (w : World) (ha : IB w A K) (hl : K.length ≤ 1048576) (hK : Msk K) :
    Calls Try.prog 64 #[.func (.func 67) #[.slice A K.length c] #[]] w (Fam w w.heap.size (mins ((List.range 64).filter (hitsQ K)))) := by
  refine (callsIn_wide (n := 6)).1 ?_
  refine callsIn_of_wp_marks Try.func64 rfl trivial ?_ rfl
  simp only [Try.ntmps64, List.size_toArray, List.length_cons, List.length_nil, Nat.reduceAdd, Nat.reduceSub, Array.replicate_succ, Array.replicate_zero, List.push_toArray, List.append_toArray, List.nil_append, List.cons_append]
  gi_wp2_with (refine ⟨trivial, ?_⟩; gi_at_call 98; refine (callsIn_wide.2 (subsets_any 63 _)).mono ?_; rintro e w' ⟨rfl, rfl⟩)
  obtain ⟨q1, q2, q3, q4, q5, q6⟩ := wh0_facts w (.func (.func 67) #[.slice A K.length c] #[])
  obtain ⟨W0, hW0⟩ : ∃ W0, wh0 w (.func (.func 67) #[.slice A K.length c] #[]) = W0 := ⟨_, rfl⟩
  rw [hW0] at q1 q2 q3 q4 q5 q6
  have hW0' := hW0
  unfold wh0 at hW0'
  rw [hW0']
  clear hW0 hW0'
  refine wpIn_rangeFunc_ownF rfl (by omega) (gf := 110) (lb := #[.pointer (some ⟨w.heap.size + 1 + 1 + 1 + 1, 0, none⟩)]) rfl trivial (enters_of Try.func110 (by kernel_rfl) rfl)
    (subsets_stops _ (by omega) (w.heap.size + 1 + 1 + 1 + 1) W0 (by omega) q4) (fun h k => k.trans h) (fun W l o o' hl _ _ _ => World.putObj_heap_other (by omega)) (Below.refl _ _) (fun _ => rfl)
    (whI w (.func (.func 67) #[.slice A K.length c] #[]) (hitsQ K)) (fun _ _ _ => False) (by rw [q5]; exact whI_own w _ _) (fun _ _ _ _ _ hs _ _ => hs)
    ⟨⟨w.heap.size + 1, 0, [], q1, .inl rfl, (fun k _ hk => by simp at hk), by simp [vals], by simp⟩, q2, q3, by omega, q6⟩
    (fun x => { tmps := #[.func (.func 67) #[.slice A K.length c] #[], .pointer (some ⟨w.heap.size, 0, none⟩), .slice none 0 0, .pointer (some ⟨w.heap.size + 1 + 1 + 1, 0, none⟩), .int .u8 (x.1 : Int), .slice (some ⟨w.heap.size + 1, 0, none⟩) 0 0, .pointer (some ⟨w.heap.size + 1 + 1, 0, none⟩), .func (.func 110) #[] #[.pointer (some ⟨w.heap.size + 1 + 1 + 1 + 1, 0, none⟩)], .int .u8 (x.1 : Int), undef, undef, undef, undef, undef, undef, undef, undef], defers := [] }) ?assign ?body ?done ?stop
  case assign =>
    intro l x W K hK
    dsimp only [encB]
    gi_wp2
    exact hK
  case body =>
    rintro l pre x W ⟨⟨g, c', b, hg, hgq, hhp, hpm, hbl⟩, hc0, hc3, hsz, hB⟩ hlt
    obtain ⟨x, hx⟩ := x
    dsimp only
    have HC := Lib.hid (meets_any A c K x W (ha.below hB) hl hK hx)
    have hb1 : b.length ≤ 1000 := by omega
    cases hp : hitsQ K x
    · have HP := Lib.hid hp
      clear hp
      gi_wp2_with (refine ⟨trivial, ?_⟩; gi_at_call 67; refine (CallsIn.inRound l (callsIn_wide.2 HC.out)).mono ?_; rintro e w' ⟨he, rfl⟩; rw [HP.out] at he; subst he)
      refine ⟨KeepsOthers.refl _, rfl, ⟨⟨g, c', b, hg, hgq, hhp, ?_, ?_⟩, hc0, hc3, hsz, hB⟩⟩
      · rw [vals_snoc, List.filter_append]; simpa [HP.out] using hpm
      · simp; omega
    · have HP := Lib.hid hp
      clear hp
      have HF := Lib.hid (addF (w.heap.size + 1 + 1) g c' x b W hg hhp hb1)
      gi_wp2_with (refine ⟨trivial, ?_⟩; first | (gi_at_call 67; refine (CallsIn.inRound l (callsIn_wide.2 HC.out)).mono ?_; rintro e w' ⟨he, rfl⟩; rw [HP.out] at he; subst he) | (gi_at_call 56; refine (CallsIn.inRound l (callsIn_wide.2 HF.out)).mono ?_; rintro e w2 ⟨rfl, g2, c2, b2, h1, h2, h3, h4, h5⟩) | fail)
      have hpl := h3.length_eq
      have hgl := hg.lt
      have keep : ∀ i, i < W.heap.size → i ≠ w.heap.size + 1 + 1 → i ≠ g → w2.heap[i]? = W.heap[i]? := h5.block
      refine ⟨⟨h5.size, fun k o ho hn => ?_⟩, keep _ (by omega) (by omega) (by omega), ⟨⟨g2, c2, b2, h1, ?_, h2, ?_, ?_⟩, ?_, ?_, ?_, ?_⟩⟩
      · have hk := (Array.getElem?_eq_some_iff.1 ho).1
        rw [keep k hk ?_ ?_]
        · exact ho
        · rintro rfl
          rw [hg.1] at ho
          injection ho with ho
          subst ho
          cases hn
        · rintro rfl
          obtain ⟨cur, hc⟩ := own_cells hg.2 k rfl
          rw [hc] at ho
          injection ho with ho
          subst ho
          cases hn
      · omega
      · rw [vals_snoc, List.filter_append]
        simp only [List.filter_cons, HP.out, List.filter_nil, if_true]
        exact perm_snoc' h3 hpm
      · simp at hpl ⊢; omega
      · exact (World.cell?_of_block (w := W) (keep _ (by show w.heap.size < _; omega) (by show w.heap.size ≠ _; omega) (by show w.heap.size ≠ _; omega))).trans hc0
      · exact (World.cell?_of_block (w := W) (keep _ (by show w.heap.size + 1 + 1 + 1 < _; omega) (by show w.heap.size + 1 + 1 + 1 ≠ _; omega) (by show w.heap.size + 1 + 1 + 1 ≠ _; omega))).trans hc3
      · exact Nat.le_trans hsz h5.size
      · exact hB.trans (h5.below (by omega) (by omega) (by omega))
  case done =>
    rintro D ys W hD hS ⟨⟨g, c', b, hg, hgq, hhp, hpm, hbl⟩, hc0, hc3, hsz, hB⟩ hK
    rw [hS] at hpm
    have hM : Msk ((List.range 64).filter (hitsQ K)) := fun q hq => List.mem_range.1 (List.mem_filter.1 hq).1
    have hb1 : b.length ≤ 1000 := by have := hpm.length_eq; have := List.length_filter_le (hitsQ K) (List.range 64); simp at this; omega
    have HF := Lib.hid (minimalF (w.heap.size + 1 + 1) g c' _ b W hg hhp hpm hM hb1)
    generalize mins ((List.range 64).filter (hitsQ K)) = MM at *
    gi_wp2_with (refine ⟨trivial, ?_⟩; gi_at_call 57; refine (callsIn_wide.2 HF.out).mono ?_; rintro e w2 ⟨A2, c2, rfl, o2, f2⟩)
    have hDl := (Array.getElem?_eq_some_iff.1 hK).1
    have hK2 : w2.heap[D]? = some (.deferred (some [])) := by
      rw [f2.block D hDl (by omega) ?_]
      · exact hK
      · rintro rfl
        obtain ⟨cur, hc⟩ := own_cells hg.2 D rfl
        rw [hc] at hK
        cases hK
    refine ⟨by simp, .inl ⟨_, _, rfl, run_takeDeferred hK2, ?_⟩⟩
    refine ⟨_, results_tmp rfl _ _ _, A2, c2, rfl, ownsRow_putObj (own_base o2 hB.size) _ hK2 rfl, ?_⟩
    have hgl := hg.lt
    exact (hB.trans (f2.below (by omega) (by omega) (by omega))).trans (belowK_b (w := w) (Nat.le_refl _) w2 D _ _ (by omega) hK2 rfl rfl)
  case stop =>
    rintro D c pre W _ _ h _
    exact h.elim
end Go.Proofs.Ytgbijndfpbcjeaa
