/- Duals of trees and their texts; plain facts, no program. -/
import Derived.Test.YtngacjfoldgjpaaGreatDoorGe
import Derived.Lib.Join
import Derived.Test.YtngacjfoldgjpaaGreatDoorGa
import Derived.Test.YtngacjfoldgjpaaGreatDoorGd
namespace Go.Proofs.YtngacjfoldgjpaaGreatDoor

mutual
theorem dual_len : (e : Ex) → wf e → (tx (dual e)).length = (tx e).length
  | .mem m, _ => by simp [dual]
  | .thr k es, h => by simp only [wf] at h; have := dualL_txlen es h.2.2.2; simp only [dual, tx, List.length_cons]; omega
theorem dualL_txlen : (es : List Ex) → wfL es → (txL (dualL es)).length = (txL es).length ∧ (txT (dualL es)).length = (txT es).length
  | [], _ => by simp [dualL]
  | e :: es, h => by
    simp only [wfL] at h
    have h1 := dual_len e h.1
    have h2 := dualL_txlen es h.2
    simp only [dualL, txT_cons, txL_cons, List.length_append, List.length_cons]
    omega
end
mutual
theorem dual_wf : (e : Ex) → wf e → wf (dual e)
  | .mem m, h => by simpa [dual] using h
  | .thr k es, h => by
    simp only [wf] at h
    have h1 := dualL_wf es h.2.2.2
    have h2 := dualL_len es
    simp only [dual, wf]
    exact ⟨by omega, by omega, by omega, h1⟩
theorem dualL_wf : (es : List Ex) → wfL es → wfL (dualL es)
  | [], _ => by simp [dualL, wfL]
  | e :: es, h => by simp only [wfL] at h; simp only [dualL, wfL]; exact ⟨dual_wf e h.1, dualL_wf es h.2⟩
end
mutual
theorem dual_dual : (e : Ex) → wf e → dual (dual e) = e
  | .mem m, _ => by simp [dual]
  | .thr k es, h => by
    simp only [wf] at h
    have h1 := dualL_dualL es h.2.2.2
    have h2 := dualL_len es
    simp only [dual, h1, h2]
    congr 1
    omega
theorem dualL_dualL : (es : List Ex) → wfL es → dualL (dualL es) = es
  | [], _ => by simp [dualL]
  | e :: es, h => by simp only [wfL] at h; simp only [dualL, dual_dual e h.1, dualL_dualL es h.2]
end
/-- What is still to be written behind j operands. -/
def rest (ds : List Ex) (j : Nat) : List UInt8 := if j = 0 then txL ds else txT (ds.drop j)
theorem rest_step {ds : List Ex} {j : Nat} {d : Ex} (h : ds[j]? = some d) : rest ds j = (if j = 0 then [] else [44]) ++ tx d ++ rest ds (j + 1) := by
  unfold rest
  rw [if_neg (by omega : ¬ j + 1 = 0)]
  by_cases h0 : j = 0
  · subst h0
    rw [if_pos rfl, if_pos rfl]
    have := drop_c h
    rw [List.drop_zero] at this
    rw [this, txL_cons]
    simp
  · rw [if_neg h0, if_neg h0, drop_c h, txT_cons, txL_cons]
    simp
theorem rest_end {ds : List Ex} (h : 1 ≤ ds.length) : rest ds ds.length = [41] := by
  unfold rest
  rw [if_neg (by omega), List.drop_length, txT_nil]
theorem join_tx (es : List Ex) (h : es ≠ []) : Lib.join (es.map tx) [44] ++ [41] = txL es := by
  cases es with
  | nil => exact absurd rfl h
  | cons e es =>
    rw [List.map_cons, Lib.join_cons, txL_cons]
    have : ∀ es : List Ex, Lib.joinTail [44] (es.map tx) ++ [41] = txT es := by
      intro es
      induction es with
      | nil => simp [Lib.joinTail, txT]
      | cons e es ih =>
        rw [txT_cons, txL_cons, ← ih]
        simp [Lib.joinTail]
    rw [List.append_assoc, this]
theorem data_app0 (a b : ByteArray) : (a ++ b).data.toList = a.data.toList ++ b.data.toList := by simp [ByteArray.data_append]
theorem dig_dg (n : Nat) : dig (n : Int) = [dg n] := by simp [dig, dg]
theorem txL_le {es : List Ex} {k : Nat} : (txL es).length + 2 = (tx (.thr k es)).length := by simp [tx]
end Go.Proofs.YtngacjfoldgjpaaGreatDoor

/- Satisfaction of trees: monotone, local, dual; plain facts, no program. -/
namespace Go.Proofs.YtngacjfoldgjpaaGreatDoor

mutual
theorem sat_mono {s t : Nat} (h : ∀ i, Nat.testBit s i = true → Nat.testBit t i = true) : (x : Ex) → sat s x = true → sat t x = true
  | .mem m, hs => by simp only [sat] at hs ⊢; exact h _ hs
  | .thr k es, hs => by simp only [sat, decide_eq_true_eq] at hs ⊢; exact Nat.le_trans hs (satL_mono h es)
theorem satL_mono {s t : Nat} (h : ∀ i, Nat.testBit s i = true → Nat.testBit t i = true) : (es : List Ex) → satL s es ≤ satL t es
  | [] => by simp [satL]
  | e :: es => by
    have h1 := satL_mono h es
    have h2 := sat_mono h e
    simp only [satL]
    by_cases hs : sat s e = true
    · rw [if_pos hs, if_pos (h2 hs)]; omega
    · rw [if_neg hs]; split <;> omega
end
mutual
theorem sat_eq {s t : Nat} : (x : Ex) → wf x → (∀ i, Nat.testBit (ms x) i = true → Nat.testBit s i = Nat.testBit t i) → sat s x = sat t x
  | .mem m, _, h => by simp only [sat]; exact h _ (by simp only [ms]; exact Nat.testBit_two_pow_self)
  | .thr k es, hw, h => by simp only [wf] at hw; simp only [sat]; rw [satL_eq es hw.2.2.2 (by simpa only [ms] using h)]
theorem satL_eq {s t : Nat} : (es : List Ex) → wfL es → (∀ i, Nat.testBit (msL es) i = true → Nat.testBit s i = Nat.testBit t i) → satL s es = satL t es
  | [], _, _ => by simp [satL]
  | e :: es, hw, h => by
    simp only [wfL] at hw
    simp only [msL, Nat.testBit_or, Bool.or_eq_true] at h
    simp only [satL]
    rw [sat_eq e hw.1 (fun i hi => h i (.inl hi)), satL_eq es hw.2 (fun i hi => h i (.inr hi))]
end
theorem sat_local {s m : Nat} {x : Ex} (hw : wf x) (hm : m = ms x) : sat (s &&& m) x = sat s x :=
  sat_eq x hw fun i hi => by rw [hm, Nat.testBit_and, hi, Bool.and_true]
mutual
theorem sat_zero : (x : Ex) → wf x → sat 0 x = false
  | .mem m, _ => by simp [sat]
  | .thr k es, h => by simp only [wf] at h; simp only [sat, satL_zero es h.2.2.2]; simp; omega
theorem satL_zero : (es : List Ex) → wfL es → satL 0 es = 0
  | [], _ => by simp [satL]
  | e :: es, h => by simp only [wfL] at h; simp only [satL, sat_zero e h.1, satL_zero es h.2]; simp
end
theorem bit63 {m : Nat} (h1 : 1 ≤ m) (h6 : m ≤ 6) : Nat.testBit 63 (m - 1) = true := by
  have H : ∀ m : Fin 7, 1 ≤ m.val → Nat.testBit 63 (m.val - 1) = true := by decide
  exact H ⟨m, by omega⟩ h1
mutual
theorem sat_all : (x : Ex) → wf x → sat 63 x = true
  | .mem m, h => by simp only [wf] at h; simp only [sat]; exact bit63 h.1 h.2
  | .thr k es, h => by simp only [wf] at h; simp only [sat, satL_all es h.2.2.2]; simp; omega
theorem satL_all : (es : List Ex) → wfL es → satL 63 es = es.length
  | [], _ => by simp [satL]
  | e :: es, h => by simp only [wfL] at h; simp only [satL, sat_all e h.1, satL_all es h.2, if_true, List.length_cons]; omega
end
theorem sat_own {x : Ex} (hw : wf x) : sat (ms x) x = true := by
  have h := sat_local (s := 63) hw rfl
  have hlt := ms_lt x hw
  have : 63 &&& ms x = ms x := by
    have H : ∀ m : Fin 64, 63 &&& m.val = m.val := by decide
    exact H ⟨ms x, hlt⟩
  rw [this, sat_all x hw] at h
  exact h
theorem bit_comp {s m : Nat} (hs : s < 64) (h1 : 1 ≤ m) (h6 : m ≤ 6) : Nat.testBit (andNot 63 s) (m - 1) = !Nat.testBit s (m - 1) := by
  have H : ∀ s : Fin 64, ∀ m : Fin 7, 1 ≤ m.val → Nat.testBit (andNot 63 s.val) (m.val - 1) = !Nat.testBit s.val (m.val - 1) := by decide +kernel
  exact H ⟨s, hs⟩ ⟨m, by omega⟩ h1
mutual
theorem sat_dual {s : Nat} (hs : s < 64) : (x : Ex) → wf x → sat s (dual x) = !sat (andNot 63 s) x
  | .mem m, h => by simp only [wf] at h; simp only [dual, sat, bit_comp hs h.1 h.2, Bool.not_not]
  | .thr k es, h => by
    simp only [wf] at h
    have h1 := satL_dual hs es h.2.2.2
    have h2 := satL_le (andNot 63 s) es
    simp only [dual, sat]
    by_cases hk : k ≤ satL (andNot 63 s) es
    · have : ¬ es.length - k + 1 ≤ satL s (dualL es) := by omega
      simp [hk, this]
    · have : es.length - k + 1 ≤ satL s (dualL es) := by omega
      simp [hk, this]
theorem satL_dual {s : Nat} (hs : s < 64) : (es : List Ex) → wfL es → satL s (dualL es) + satL (andNot 63 s) es = es.length
  | [], _ => by simp [dualL, satL]
  | e :: es, h => by
    simp only [wfL] at h
    have h1 := sat_dual hs e h.1
    have h2 := satL_dual hs es h.2
    simp only [dualL, satL, List.length_cons, h1]
    cases sat (andNot 63 s) e <;> simp <;> omega
end
mutual
theorem ms_dual : (x : Ex) → ms (dual x) = ms x
  | .mem m => by simp [dual]
  | .thr k es => by simp only [dual, ms, msL_dual es]
theorem msL_dual : (es : List Ex) → msL (dualL es) = msL es
  | [] => by simp [dualL]
  | e :: es => by simp only [dualL, msL, ms_dual e, msL_dual es]
end
mutual
theorem dep_dual : (x : Ex) → dep (dual x) = dep x
  | .mem m => by simp [dual]
  | .thr k es => by simp only [dual, dep, depL_dual es]
theorem depL_dual : (es : List Ex) → depL (dualL es) = depL es
  | [] => by simp [dualL]
  | e :: es => by simp only [dualL, depL, dep_dual e, depL_dual es]
end
theorem ms_pos {x : Ex} (hw : wf x) : mem (ms x) ≠ [] := by
  intro h
  have h1 := sat_own hw
  have h2 : ms x = 0 := by
    have := msk_mem (ms_lt x hw)
    rw [h] at this
    exact this.symm
  rw [h2, sat_zero x hw] at h1
  cases h1
theorem msk_un {a b : List Int} (ha : vld a = true) (hb : vld b = true) : msk (union a b) = msk a ||| msk b := by
  rw [← union_msk ha hb, msk_mem (Nat.or_lt_two_pow (n := 6) (msk_lt ha) (msk_lt hb))]
theorem msk_in {a b : List Int} (ha : vld a = true) (hb : vld b = true) : msk (inter a b) = msk a &&& msk b := by
  rw [← inter_msk ha hb, msk_mem (Nat.lt_of_le_of_lt Nat.and_le_left (msk_lt ha))]
theorem msk_mi {a b : List Int} (ha : vld a = true) (hb : vld b = true) : msk (minus a b) = andNot (msk a) (msk b) := by
  rw [← minus_msk ha hb, msk_mem (show andNot (msk a) (msk b) < 64 from Nat.lt_of_le_of_lt Nat.and_le_left (msk_lt ha))]
end Go.Proofs.YtngacjfoldgjpaaGreatDoor

/- The sets that satisfy an expression, no program. -/
namespace Go.Proofs.YtngacjfoldgjpaaGreatDoor
def satF (x : Ex) (s : Nat) : Bool := sat s x
def satL' (x : Ex) : List Nat := (List.range 64).filter (satF x)
def expM (T : ByteArray) : List Nat := match pT0 T with | none => [] | some x => satL' x
theorem satL'_msk (x : Ex) : Msk (satL' x) := fun _ hq => List.mem_range.1 (List.mem_filter.1 hq).1
theorem mem_satL' {x : Ex} {s : Nat} : s ∈ satL' x ↔ s < 64 ∧ sat s x = true := by simp [satL', satF]
end Go.Proofs.YtngacjfoldgjpaaGreatDoor

/- The minimal sets that satisfy an expression, the program's, by their contract. -/
namespace Go.Proofs.YtngacjfoldgjpaaGreatDoor
open Go.RowKit Go.Shelf
attribute [local go_sem] Oper.semAt_some

set_option maxRecDepth 100000 in
set_option maxHeartbeats 3200000 in
theorem whereM (m0 b0 : Nat) (Q : Nat → Prop) (w : World) (hw : wf (.mem m0)) (ht : Tr w Q (.mem m0) (.iface 59 (.pointer (some ⟨b0, 0, none⟩)))) :
    Calls Tryz.prog 28 #[.func (.method "loop.example/flexquorum/impl.satisfiedBy") #[.iface 59 (.pointer (some ⟨b0, 0, none⟩))] #[]] w (Fam w w.heap.size (mins ((List.range 64).filter (satF (.mem m0))))) := by
  refine (callsIn_wide (n := 6)).1 ?_
  refine callsIn_of_wp_marks Tryz.func28 rfl trivial ?_ rfl
  simp only [Tryz.ntmps28, List.size_toArray, List.length_cons, List.length_nil, Nat.reduceAdd, Nat.reduceSub, Array.replicate_succ, Array.replicate_zero, List.push_toArray, List.append_toArray, List.nil_append, List.cons_append]
  gi_wp2_with (refine ⟨trivial, ?_⟩; gi_at_call 40; refine (callsIn_wide.2 (subsets_any 63 _)).mono ?_; rintro e w' ⟨rfl, rfl⟩)
  obtain ⟨q1, q2, q3, q4, q5, q6⟩ := wh0_facts w (.func (.method "loop.example/flexquorum/impl.satisfiedBy") #[.iface 59 (.pointer (some ⟨b0, 0, none⟩))] #[])
  obtain ⟨W0, hW0⟩ : ∃ W0, wh0 w (.func (.method "loop.example/flexquorum/impl.satisfiedBy") #[.iface 59 (.pointer (some ⟨b0, 0, none⟩))] #[]) = W0 := ⟨_, rfl⟩
  rw [hW0] at q1 q2 q3 q4 q5 q6
  have hW0' := hW0
  unfold wh0 at hW0'
  rw [hW0']
  clear hW0 hW0'
  refine wpIn_rangeFunc_ownF rfl (by omega) (gf := 62) (lb := #[.pointer (some ⟨w.heap.size + 1 + 1 + 1 + 1, 0, none⟩)]) rfl trivial (enters_of Tryz.func62 (by kernel_rfl) rfl)
    (subsets_stops _ (by omega) (w.heap.size + 1 + 1 + 1 + 1) W0 (by omega) q4) (fun h k => k.trans h) (fun W l o o' hl _ _ _ => World.putObj_heap_other (by omega)) (Below.refl _ _) (fun _ => rfl)
    (whI w (.func (.method "loop.example/flexquorum/impl.satisfiedBy") #[.iface 59 (.pointer (some ⟨b0, 0, none⟩))] #[]) (satF (.mem m0))) (fun _ _ _ => False) (by rw [q5]; exact whI_own w _ _) (fun _ _ _ _ _ hs _ _ => hs)
    ⟨⟨w.heap.size + 1, 0, [], q1, .inl rfl, (fun k _ hk => by simp at hk), by simp [vals], by simp⟩, q2, q3, by omega, q6⟩
    (fun x => { tmps := #[.func (.method "loop.example/flexquorum/impl.satisfiedBy") #[.iface 59 (.pointer (some ⟨b0, 0, none⟩))] #[], .pointer (some ⟨w.heap.size, 0, none⟩), .slice none 0 0, .pointer (some ⟨w.heap.size + 1 + 1 + 1, 0, none⟩), .int .u8 (x.1 : Int), .slice (some ⟨w.heap.size + 1, 0, none⟩) 0 0, .pointer (some ⟨w.heap.size + 1 + 1, 0, none⟩), .func (.func 62) #[] #[.pointer (some ⟨w.heap.size + 1 + 1 + 1 + 1, 0, none⟩)], .int .u8 (x.1 : Int), undef, undef, undef, undef, undef, undef, undef, undef], defers := [] }) ?assign ?body ?done ?stop
  case assign =>
    intro l x W K hK
    dsimp only [encB]
    gi_wp2
    exact hK
  case body =>
    rintro l pre x W ⟨⟨g, c', b, hg, hgq, hhp, hpm, hbl⟩, hc0, hc3, hsz, hB⟩ hlt
    obtain ⟨x, hx⟩ := x
    dsimp only
    have hm1 := m_sat_mem
    have HC := Lib.hid ((satMem_any x hx m0 b0 Q W hw (Tr.keep (by have := hB.size; omega) (fun b' hb' hl' => ⟨hb', hB.block b' hl'⟩) _ _ ht)).mono fun e w' (h : _ ∧ W = w') => (⟨h.1, by rw [← h.2]; exact Below.refl _ _⟩ : e = .returned (.bool (satF (.mem m0) x)) ∧ Below W.heap.size W w'))
    have hb1 : b.length ≤ 1000 := by omega
    cases hp : satF (.mem m0) x
    · have HP := Lib.hid hp
      clear hp
      gi_wp2_with (refine ⟨trivial, ?_⟩; gi_at_call 119; refine (CallsIn.inRound l (callsIn_wide.2 HC.out)).mono ?_; rintro e w1 ⟨he, b1⟩; rw [HP.out] at he; subst he; have hg1 := hg.kept (b1.block _ hg.lt.1) (b1.block _ hg.lt.2); have hc01 := (World.cell?_of_block (w := W) (b1.block w.heap.size (by omega))).trans hc0; have hc31 := (World.cell?_of_block (w := W) (b1.block (w.heap.size + 1 + 1 + 1) (by omega))).trans hc3; have hB1 := below_step hB b1)
      refine ⟨⟨b1.size, fun k o ho _ => (b1.block k (Array.getElem?_eq_some_iff.1 ho).1).trans ho⟩, b1.block _ (by omega), ⟨⟨g, c', b, hg1, hgq, hhp, ?_, ?_⟩, hc01, hc31, Nat.le_trans hsz b1.size, hB1⟩⟩
      · rw [vals_snoc, List.filter_append]; simpa [HP.out] using hpm
      · simp; omega
    · have HP := Lib.hid hp
      clear hp
      gi_wp2_with (refine ⟨trivial, ?_⟩; first | (gi_at_call 119; refine (CallsIn.inRound l (callsIn_wide.2 HC.out)).mono ?_; rintro e w1 ⟨he, b1⟩; rw [HP.out] at he; subst he; have hg1 := hg.kept (b1.block _ hg.lt.1) (b1.block _ hg.lt.2); have hc01 := (World.cell?_of_block (w := W) (b1.block w.heap.size (by omega))).trans hc0; have hc31 := (World.cell?_of_block (w := W) (b1.block (w.heap.size + 1 + 1 + 1) (by omega))).trans hc3; have hB1 := below_step hB b1) | (gi_at_call 52; refine (CallsIn.inRound l (callsIn_wide.2 (addF (w.heap.size + 1 + 1) g c' x b w1 hg1 hhp hb1))).mono ?_; rintro e w2 ⟨rfl, g2, c2, b2, h1, h2, h3, h4, h5⟩) | fail)
      have hpl := h3.length_eq
      have hgl := hg.lt
      have hs1 := b1.size
      have keep : ∀ i, i < W.heap.size → i ≠ w.heap.size + 1 + 1 → i ≠ g → w2.heap[i]? = W.heap[i]? := fun i h6 h7 h8 => (h5.block i (by omega) h7 h8).trans (b1.block i h6)
      refine ⟨⟨Nat.le_trans hs1 h5.size, fun k o ho hn => ?_⟩, keep _ (by omega) (by omega) (by omega), ⟨⟨g2, c2, b2, h1, ?_, h2, ?_, ?_⟩, ?_, ?_, ?_, ?_⟩⟩
      · have hk := (Array.getElem?_eq_some_iff.1 ho).1
        rw [keep k hk ?_ ?_]
        · exact ho
        · rintro rfl
          rw [hg.1] at ho
          injection ho with ho
          subst ho
          cases hn
        · rintro rfl
          obtain ⟨cur, hc⟩ := own_cells hg.2 k rfl
          rw [hc] at ho
          injection ho with ho
          subst ho
          cases hn
      · omega
      · rw [vals_snoc, List.filter_append]
        simp only [List.filter_cons, HP.out, List.filter_nil, if_true]
        exact perm_snoc' h3 hpm
      · simp at hpl ⊢; omega
      · exact (World.cell?_of_block (w := W) (keep _ (by show w.heap.size < _; omega) (by show w.heap.size ≠ _; omega) (by show w.heap.size ≠ _; omega))).trans hc0
      · exact (World.cell?_of_block (w := W) (keep _ (by show w.heap.size + 1 + 1 + 1 < _; omega) (by show w.heap.size + 1 + 1 + 1 ≠ _; omega) (by show w.heap.size + 1 + 1 + 1 ≠ _; omega))).trans hc3
      · exact Nat.le_trans hsz (Nat.le_trans hs1 h5.size)
      · exact hB1.trans (h5.below (by omega) (by omega) (by omega))
  case done =>
    rintro D ys W hD hS ⟨⟨g, c', b, hg, hgq, hhp, hpm, hbl⟩, hc0, hc3, hsz, hB⟩ hK
    rw [hS] at hpm
    have hM : Msk ((List.range 64).filter (satF (.mem m0))) := fun q hq => List.mem_range.1 (List.mem_filter.1 hq).1
    have hb1 : b.length ≤ 1000 := by have := hpm.length_eq; have := List.length_filter_le (satF (.mem m0)) (List.range 64); simp at this; omega
    have HF := Lib.hid (minimalF (w.heap.size + 1 + 1) g c' _ b W hg hhp hpm hM hb1)
    generalize mins ((List.range 64).filter (satF (.mem m0))) = MM at *
    gi_wp2_with (refine ⟨trivial, ?_⟩; gi_at_call 53; refine (callsIn_wide.2 HF.out).mono ?_; rintro e w2 ⟨A2, c2, rfl, o2, f2⟩)
    have hDl := (Array.getElem?_eq_some_iff.1 hK).1
    have hK2 : w2.heap[D]? = some (.deferred (some [])) := by
      rw [f2.block D hDl (by omega) ?_]
      · exact hK
      · rintro rfl
        obtain ⟨cur, hc⟩ := own_cells hg.2 D rfl
        rw [hc] at hK
        cases hK
    refine ⟨by simp, .inl ⟨_, _, rfl, run_takeDeferred hK2, ?_⟩⟩
    refine ⟨_, results_tmp rfl _ _ _, A2, c2, rfl, ownsRow_putObj (own_base o2 hB.size) _ hK2 rfl, ?_⟩
    have hgl := hg.lt
    exact (hB.trans (f2.below (by omega) (by omega) (by omega))).trans (belowK_b (w := w) (Nat.le_refl _) w2 D _ _ (by omega) hK2 rfl rfl)
  case stop =>
    rintro D c pre W _ _ h _
    exact h.elim
end Go.Proofs.YtngacjfoldgjpaaGreatDoor

/- The minimal sets that satisfy an expression, the program's, by their contract. -/
namespace Go.Proofs.YtngacjfoldgjpaaGreatDoor
open Go.RowKit Go.Shelf
attribute [local go_sem] Oper.semAt_some

set_option maxRecDepth 100000 in
set_option maxHeartbeats 3200000 in
theorem whereN (k0 : Nat) (es0 : List Ex) (b0 : Nat) (Q : Nat → Prop) (w : World) (hw : wf (.thr k0 es0)) (hxl : (tx (.thr k0 es0)).length ≤ 40) (ht : Tr w Q (.thr k0 es0) (.iface 55 (.pointer (some ⟨b0, 0, none⟩)))) :
    Calls Tryz.prog 28 #[.func (.method "loop.example/flexquorum/impl.satisfiedBy") #[.iface 55 (.pointer (some ⟨b0, 0, none⟩))] #[]] w (Fam w w.heap.size (mins ((List.range 64).filter (satF (.thr k0 es0))))) := by
  refine (callsIn_wide (n := 6)).1 ?_
  refine callsIn_of_wp_marks Tryz.func28 rfl trivial ?_ rfl
  simp only [Tryz.ntmps28, List.size_toArray, List.length_cons, List.length_nil, Nat.reduceAdd, Nat.reduceSub, Array.replicate_succ, Array.replicate_zero, List.push_toArray, List.append_toArray, List.nil_append, List.cons_append]
  gi_wp2_with (refine ⟨trivial, ?_⟩; gi_at_call 40; refine (callsIn_wide.2 (subsets_any 63 _)).mono ?_; rintro e w' ⟨rfl, rfl⟩)
  obtain ⟨q1, q2, q3, q4, q5, q6⟩ := wh0_facts w (.func (.method "loop.example/flexquorum/impl.satisfiedBy") #[.iface 55 (.pointer (some ⟨b0, 0, none⟩))] #[])
  obtain ⟨W0, hW0⟩ : ∃ W0, wh0 w (.func (.method "loop.example/flexquorum/impl.satisfiedBy") #[.iface 55 (.pointer (some ⟨b0, 0, none⟩))] #[]) = W0 := ⟨_, rfl⟩
  rw [hW0] at q1 q2 q3 q4 q5 q6
  have hW0' := hW0
  unfold wh0 at hW0'
  rw [hW0']
  clear hW0 hW0'
  refine wpIn_rangeFunc_ownF rfl (by omega) (gf := 62) (lb := #[.pointer (some ⟨w.heap.size + 1 + 1 + 1 + 1, 0, none⟩)]) rfl trivial (enters_of Tryz.func62 (by kernel_rfl) rfl)
    (subsets_stops _ (by omega) (w.heap.size + 1 + 1 + 1 + 1) W0 (by omega) q4) (fun h k => k.trans h) (fun W l o o' hl _ _ _ => World.putObj_heap_other (by omega)) (Below.refl _ _) (fun _ => rfl)
    (whI w (.func (.method "loop.example/flexquorum/impl.satisfiedBy") #[.iface 55 (.pointer (some ⟨b0, 0, none⟩))] #[]) (satF (.thr k0 es0))) (fun _ _ _ => False) (by rw [q5]; exact whI_own w _ _) (fun _ _ _ _ _ hs _ _ => hs)
    ⟨⟨w.heap.size + 1, 0, [], q1, .inl rfl, (fun k _ hk => by simp at hk), by simp [vals], by simp⟩, q2, q3, by omega, q6⟩
    (fun x => { tmps := #[.func (.method "loop.example/flexquorum/impl.satisfiedBy") #[.iface 55 (.pointer (some ⟨b0, 0, none⟩))] #[], .pointer (some ⟨w.heap.size, 0, none⟩), .slice none 0 0, .pointer (some ⟨w.heap.size + 1 + 1 + 1, 0, none⟩), .int .u8 (x.1 : Int), .slice (some ⟨w.heap.size + 1, 0, none⟩) 0 0, .pointer (some ⟨w.heap.size + 1 + 1, 0, none⟩), .func (.func 62) #[] #[.pointer (some ⟨w.heap.size + 1 + 1 + 1 + 1, 0, none⟩)], .int .u8 (x.1 : Int), undef, undef, undef, undef, undef, undef, undef, undef], defers := [] }) ?assign ?body ?done ?stop
  case assign =>
    intro l x W K hK
    dsimp only [encB]
    gi_wp2
    exact hK
  case body =>
    rintro l pre x W ⟨⟨g, c', b, hg, hgq, hhp, hpm, hbl⟩, hc0, hc3, hsz, hB⟩ hlt
    obtain ⟨x, hx⟩ := x
    dsimp only
    have hm1 := m_sat_thr
    have HC := Lib.hid ((satThr_any x hx 40 k0 es0 b0 Q W hxl hw (Tr.keep (by have := hB.size; omega) (fun b' hb' hl' => ⟨hb', hB.block b' hl'⟩) _ _ ht)).mono fun e w' (h : _ ∧ W = w') => (⟨h.1, by rw [← h.2]; exact Below.refl _ _⟩ : e = .returned (.bool (satF (.thr k0 es0) x)) ∧ Below W.heap.size W w'))
    have hb1 : b.length ≤ 1000 := by omega
    cases hp : satF (.thr k0 es0) x
    · have HP := Lib.hid hp
      clear hp
      gi_wp2_with (refine ⟨trivial, ?_⟩; gi_at_call 117; refine (CallsIn.inRound l (callsIn_wide.2 HC.out)).mono ?_; rintro e w1 ⟨he, b1⟩; rw [HP.out] at he; subst he; have hg1 := hg.kept (b1.block _ hg.lt.1) (b1.block _ hg.lt.2); have hc01 := (World.cell?_of_block (w := W) (b1.block w.heap.size (by omega))).trans hc0; have hc31 := (World.cell?_of_block (w := W) (b1.block (w.heap.size + 1 + 1 + 1) (by omega))).trans hc3; have hB1 := below_step hB b1)
      refine ⟨⟨b1.size, fun k o ho _ => (b1.block k (Array.getElem?_eq_some_iff.1 ho).1).trans ho⟩, b1.block _ (by omega), ⟨⟨g, c', b, hg1, hgq, hhp, ?_, ?_⟩, hc01, hc31, Nat.le_trans hsz b1.size, hB1⟩⟩
      · rw [vals_snoc, List.filter_append]; simpa [HP.out] using hpm
      · simp; omega
    · have HP := Lib.hid hp
      clear hp
      gi_wp2_with (refine ⟨trivial, ?_⟩; first | (gi_at_call 117; refine (CallsIn.inRound l (callsIn_wide.2 HC.out)).mono ?_; rintro e w1 ⟨he, b1⟩; rw [HP.out] at he; subst he; have hg1 := hg.kept (b1.block _ hg.lt.1) (b1.block _ hg.lt.2); have hc01 := (World.cell?_of_block (w := W) (b1.block w.heap.size (by omega))).trans hc0; have hc31 := (World.cell?_of_block (w := W) (b1.block (w.heap.size + 1 + 1 + 1) (by omega))).trans hc3; have hB1 := below_step hB b1) | (gi_at_call 52; refine (CallsIn.inRound l (callsIn_wide.2 (addF (w.heap.size + 1 + 1) g c' x b w1 hg1 hhp hb1))).mono ?_; rintro e w2 ⟨rfl, g2, c2, b2, h1, h2, h3, h4, h5⟩) | fail)
      have hpl := h3.length_eq
      have hgl := hg.lt
      have hs1 := b1.size
      have keep : ∀ i, i < W.heap.size → i ≠ w.heap.size + 1 + 1 → i ≠ g → w2.heap[i]? = W.heap[i]? := fun i h6 h7 h8 => (h5.block i (by omega) h7 h8).trans (b1.block i h6)
      refine ⟨⟨Nat.le_trans hs1 h5.size, fun k o ho hn => ?_⟩, keep _ (by omega) (by omega) (by omega), ⟨⟨g2, c2, b2, h1, ?_, h2, ?_, ?_⟩, ?_, ?_, ?_, ?_⟩⟩
      · have hk := (Array.getElem?_eq_some_iff.1 ho).1
        rw [keep k hk ?_ ?_]
        · exact ho
        · rintro rfl
          rw [hg.1] at ho
          injection ho with ho
          subst ho
          cases hn
        · rintro rfl
          obtain ⟨cur, hc⟩ := own_cells hg.2 k rfl
          rw [hc] at ho
          injection ho with ho
          subst ho
          cases hn
      · omega
      · rw [vals_snoc, List.filter_append]
        simp only [List.filter_cons, HP.out, List.filter_nil, if_true]
        exact perm_snoc' h3 hpm
      · simp at hpl ⊢; omega
      · exact (World.cell?_of_block (w := W) (keep _ (by show w.heap.size < _; omega) (by show w.heap.size ≠ _; omega) (by show w.heap.size ≠ _; omega))).trans hc0
      · exact (World.cell?_of_block (w := W) (keep _ (by show w.heap.size + 1 + 1 + 1 < _; omega) (by show w.heap.size + 1 + 1 + 1 ≠ _; omega) (by show w.heap.size + 1 + 1 + 1 ≠ _; omega))).trans hc3
      · exact Nat.le_trans hsz (Nat.le_trans hs1 h5.size)
      · exact hB1.trans (h5.below (by omega) (by omega) (by omega))
  case done =>
    rintro D ys W hD hS ⟨⟨g, c', b, hg, hgq, hhp, hpm, hbl⟩, hc0, hc3, hsz, hB⟩ hK
    rw [hS] at hpm
    have hM : Msk ((List.range 64).filter (satF (.thr k0 es0))) := fun q hq => List.mem_range.1 (List.mem_filter.1 hq).1
    have hb1 : b.length ≤ 1000 := by have := hpm.length_eq; have := List.length_filter_le (satF (.thr k0 es0)) (List.range 64); simp at this; omega
    have HF := Lib.hid (minimalF (w.heap.size + 1 + 1) g c' _ b W hg hhp hpm hM hb1)
    generalize mins ((List.range 64).filter (satF (.thr k0 es0))) = MM at *
    gi_wp2_with (refine ⟨trivial, ?_⟩; gi_at_call 53; refine (callsIn_wide.2 HF.out).mono ?_; rintro e w2 ⟨A2, c2, rfl, o2, f2⟩)
    have hDl := (Array.getElem?_eq_some_iff.1 hK).1
    have hK2 : w2.heap[D]? = some (.deferred (some [])) := by
      rw [f2.block D hDl (by omega) ?_]
      · exact hK
      · rintro rfl
        obtain ⟨cur, hc⟩ := own_cells hg.2 D rfl
        rw [hc] at hK
        cases hK
    refine ⟨by simp, .inl ⟨_, _, rfl, run_takeDeferred hK2, ?_⟩⟩
    refine ⟨_, results_tmp rfl _ _ _, A2, c2, rfl, ownsRow_putObj (own_base o2 hB.size) _ hK2 rfl, ?_⟩
    have hgl := hg.lt
    exact (hB.trans (f2.below (by omega) (by omega) (by omega))).trans (belowK_b (w := w) (Nat.le_refl _) w2 D _ _ (by omega) hK2 rfl rfl)
  case stop =>
    rintro D c pre W _ _ h _
    exact h.elim
end Go.Proofs.YtngacjfoldgjpaaGreatDoor

/- The quorums of an expression, of the reference model and of the program, by their contracts. -/
namespace Go.Proofs.YtngacjfoldgjpaaGreatDoor
open Go.RowKit

set_option maxRecDepth 100000 in
set_option maxHeartbeats 1600000 in
theorem l3OfExpr_any (T : ByteArray) (x : Ex) (w : World) (hp : pT0 T = some x) :
    Calls Tryz.prog 55 #[.string T] w (NewSS w (mems (mins (satL' x)))) := by
  obtain ⟨i0, hi0, hz0, hz1, hz2⟩ := info_parts slice_info
  obtain ⟨hx, hw, hxl⟩ := bx_of hp
  have HD := Lib.hid (fun (s : Nat) (hs : s < 64) (A : Option Addr) (c : Nat) (w' : World) (h : IL w' A (mem s)) => l2Sat_any s hs A c 40 x w' hxl (by omega) hw h)
  rw [← hx] at HD
  obtain ⟨p, hpp⟩ : ∃ p, p = satF x := ⟨_, rfl⟩
  have HT := Lib.hid (show (List.range 64).filter p = satL' x by rw [hpp]; rfl)
  have HP := Lib.hid (show ∀ k, p k = sat k x by intro k; rw [hpp]; rfl)
  clear hpp hp hx hw hxl
  have h00 : (w.alloc (.cells #[] 29)).ownsRow w.heap.size 29 1 (.slice (some ⟨w.heap.size, 0, none⟩) 0 0) 0 [] := World.ownsRow_made w #[] 0 (Nat.le_refl _) (by unfold maxLen; omega) (by simp)
  have hb00 : Below w.heap.size w (w.alloc (.cells #[] 29)) := (Below.refl _ w).alloc (Nat.le_refl _) _
  have H00 := Lib.hid (And.intro h00 hb00)
  clear h00 hb00
  go_enter Tryz.func55, Tryz.ntmps55
  go_wp2
  go_loopw [3, 4] (fun v i wr => ∃ (k : Nat) (rs : List Value) (A5 : Option Addr) (c5 : Nat), k ≤ 64 ∧ i = .int .i64 k ∧ v = .slice A5 rs.length c5 ∧ rs.length ≤ k ∧ wr.ownsRow w.heap.size 29 1 (.slice A5 rs.length c5) rs.length rs ∧ Hid (Rws wr w.heap.size wr.heap.size (mems ((List.range k).filter p)) rs) ∧ Below w.heap.size w wr) (fun _ i _ => 64 - (intOf i).toNat)
  case atStart => exact ⟨0, [], _, _, by omega, rfl, rfl, by simp, H00.out.1, Rws.nil _ _ _, H00.out.2⟩
  case round =>
    clear H00
    obtain ⟨k, rs, A5, c5, hk, rfl, rfl, hrl, hown, hrows, hbel⟩ := hrel
    by_cases hlt : k < 64
    · go_wp2_with fail
      refine (l1Masks_any _).mono ?_
      rintro e w' ⟨rfl, rfl⟩
      go_wp2_with fail
      refine (l1OfMask_any k _ hlt).mono ?_
      rintro e w2 ⟨A2, c2, rfl, o2, b2⟩
      have hil2 := (IL.of_own o2).1
      have hml := mem_len k
      have HO2 := Lib.hid (Own.of_new o2)
      clear o2
      go_wp2_with fail
      refine (HD.out k hlt A2 c2 _ hil2).mono ?_
      rintro e w3 ⟨he, b3⟩
      have b23 := below_step b2 b3
      have hown3 := own_at hown (w' := w3) fun g hg => b23.block g (hown.lt g hg).2
      have HR3 := Lib.hid (hrows.out.below (Nat.le_refl _) b23)
      have HX3 := Lib.hid (show RowAt w3 wr.heap.size w2.heap.size (mem k) (.slice A2 (mem k).length c2) from ⟨_, _, rfl, HO2.out.below b3⟩)
      have hb3 := below_step hbel b23
      have hq : w.heap.size ≤ wr.heap.size ∧ wr.heap.size ≤ w2.heap.size ∧ w2.heap.size ≤ w3.heap.size := ⟨hbel.size, b2.size, b3.size⟩
      clear hown hrows b2 b3 hil2 HO2
      have HE := HP.out k
      rw [← HE] at he
      cases hpk : p k
      · rw [hpk] at he
        subst he
        have R := Lib.hid (show w3.ownsRow w.heap.size 29 1 (.slice A5 rs.length c5) rs.length rs ∧ Rws w3 w.heap.size w3.heap.size (mems ((List.range (k + 1)).filter p)) rs ∧ Below w.heap.size w w3 by
          refine ⟨hown3, ?_, hb3⟩
          rw [mems_range_no hpk]
          exact Rws.hi_le HR3.out (by omega) (Nat.le_refl _))
        clear hown3 HR3 hb3 b23 hbel hpk HE HX3
        go_wp2
        go_roundw
        case rel => exact ⟨k + 1, rs, A5, c5, by omega, by go_num, rfl, by omega, R.out.1, R.out.2.1, R.out.2.2⟩
        case measure => simp [intOf]; omega
      · rw [hpk] at he
        subst he
        have HPK := Lib.hid hpk
        clear hpk HE hbel b23
        go_wp2_with (at_builtin; refine wpList_append_own _ rfl (.tmp 17) (.tmp 19) 23 rfl w.heap.size 29 i0 (.slice none 0 0) 1 24 Tryz.underlying23 hi0 hz0 hz1 hz2 rfl (by decide) _ _ _ rfl (hown3.alloc _) ⟨w3.heap.size, 0, none⟩ 1 1 [.slice A2 (mem k).length c2] rfl rfl (cell_one_new _ _ _) (slice_oneCell _ _ _) (by unfold maxLen; omega) (by omega) (by simp; omega) ?_)
        intro v5 w5 hown5 hgrow5 _
        have R := Lib.hid (show ∃ rs' A6 c6, v5 = Value.slice A6 (List.length rs') c6 ∧ rs'.length = rs.length + 1 ∧ w5.ownsRow w.heap.size 29 1 (.slice A6 (List.length rs') c6) (List.length rs') rs' ∧ Rws w5 w.heap.size w5.heap.size (mems ((List.range (k + 1)).filter p)) rs' ∧ Below w.heap.size w w5 by
          have h3 : w5.ownsRow w.heap.size 29 1 v5 (rs ++ [Value.slice A2 (mem k).length c2]).length (rs ++ [Value.slice A2 (mem k).length c2]) := by simpa using hown5
          obtain ⟨A6, c6, h4⟩ := own_slice h3
          refine ⟨_, A6, c6, h4, by simp, by rw [← h4]; exact h3, ?_, app_gen hown3 (Nat.le_refl _) hb3 hgrow5⟩
          rw [mems_range_yes HPK.out]
          exact rows_app HR3.out HX3.out (Nat.le_refl _) hq.1 hq.2.1 hown3 hgrow5)
        obtain ⟨rs', A6, c6, rfl, hrl', R2⟩ := R.out
        have HR2 := Lib.hid R2
        clear R R2 hown5 hgrow5 hown3 HR3 HX3 hb3
        go_wp2
        go_roundw
        case rel => exact ⟨k + 1, rs', A6, c6, by omega, by go_num, rfl, by omega, HR2.out.1, HR2.out.2.1, HR2.out.2.2⟩
        case measure => simp [intOf]; omega
    · have hkl : k = 64 := by omega
      subst hkl
      have h1 := hrows.out
      have hrl2 : rs.length = (mems ((List.range 64).filter p)).length := h1.1
      have hiss : ISS wr A5 (mems ((List.range 64).filter p)) := by
        rw [hrl2] at hown
        exact h1.iss hown fun _ _ h => h
      rw [hrl2]
      have HV := Lib.hid (filter_allV p)
      have HM := Lib.hid (msks_filter p)
      have hsh := mems_short ((List.range 64).filter p) 1048576 (by omega)
      have hlen : (mems ((List.range 64).filter p)).length ≤ 1048576 := by omega
      clear hown hrows h1 hrl2
      generalize mems ((List.range 64).filter p) = U at *
      go_wp2_with fail
      refine (l1Masks_any _).mono ?_
      rintro e w' ⟨rfl, rfl⟩
      go_wp2_with fail
      refine (l3Min_any _ _ _ _ hiss hlen hsh HV.out).mono ?_
      rintro e w5 ⟨A7, c7, rfl, o7, b7⟩
      have HR := Lib.hid (show NewSS w (mems (mins (satL' x))) (.returned (.slice A7 (mems (mins (msks U))).length c7)) w5 by
        rw [HM.out, HT.out] at *
        exact ⟨A7, c7, rfl, o7.base hbel.size, below_step hbel b7⟩)
      clear o7 b7
      go_wp2
      go_ret
      exact HR.out

theorem expM_some {T : ByteArray} {x : Ex} (h : pT0 T = some x) : expM T = satL' x := by unfold expM; rw [h]
theorem okX_none {T : ByteArray} (h : pT0 T = none) : okX T = false := by simp [okX, h]
theorem okX_some {T : ByteArray} {x : Ex} (h : pT0 T = some x) : okX T = true := by simp [okX, h]

set_option maxRecDepth 100000 in
set_option maxHeartbeats 1600000 in
theorem specOfEx_any (T : ByteArray) (w : World) (hT : T.size ≤ 1048576) :
    Calls Tryz.prog 33 #[.string T] w (NewSS2 w (outM (expM T) (okX T)) (okX T)) := by
  cases hp : pT0 T with
  | none =>
    have HC := Lib.hid (spec_no T w hT hp)
    have HB := Lib.hid (okX_none hp)
    clear hp
    go_enter Tryz.func33, Tryz.ntmps33
    go_wp2_with fail
    refine HC.out.mono ?_
    rintro e w' ⟨rfl, rfl⟩
    go_wp2
    go_ret2
    rw [HB.out, outM]
    exact NewSS2.made (Below.refl _ _)
  | some x =>
    have HC := Lib.hid (spec_yes T w hT hp)
    have HB := Lib.hid (okX_some hp)
    have HE := Lib.hid (expM_some hp)
    have HL := Lib.hid (fun w => l3OfExpr_any T x w hp)
    clear hp
    go_enter Tryz.func33, Tryz.ntmps33
    go_wp2_with fail
    refine HC.out.mono ?_
    rintro e w' ⟨rfl, rfl⟩
    clear HC
    go_wp2_with fail
    refine (HL.out _).mono ?_
    rintro e w1 ⟨A1, c1, rfl, o1, b1⟩
    have HR := Lib.hid (show NewSS2 w (outM (expM T) (okX T)) (okX T) (.returned (.tuple #[.slice A1 (mems (mins (satL' x))).length c1, .bool true])) w1 by
      rw [HB.out, outM, HE.out]
      exact ⟨A1, c1, rfl, o1, b1⟩)
    clear o1 b1 HL
    go_wp2
    go_ret2
    exact HR.out

set_option maxRecDepth 100000 in
set_option maxHeartbeats 1600000 in
theorem implOfEx_any (T : ByteArray) (w : World) (hT : T.size ≤ 1048576) :
    Calls Tryz.prog 9 #[.string T] w (NewSS2 w (outM (expM T) (okX T)) (okX T)) := by
  go_enter Tryz.func9, Tryz.ntmps9
  go_wp2_with fail
  refine (parse_any T w hT).mono ?_
  rintro e w1 ⟨b1, ⟨hn, rfl⟩ | ⟨x, v, hp, rfl, ht⟩⟩
  · have HB := Lib.hid (okX_none hn)
    clear hn
    go_wp2
    go_ret2
    rw [HB.out, outM]
    exact NewSS2.nil b1
  · have HB := Lib.hid (okX_some hp)
    have HE := Lib.hid (expM_some hp)
    obtain ⟨_, hw, hxl⟩ := bx_of hp
    clear hp
    cases x with
    | mem m =>
      have ht' := ht
      simp only [Tr] at ht'
      obtain ⟨b, rfl, _, _⟩ := ht'
      have HW : Hid ((List.range 64).filter (satF (.mem m)) = expM T) := Lib.hid HE.out.symm
      have HC := Lib.hid (whereM m b _ w1 hw ht)
      clear ht hw hxl HE
      generalize expM T = M at *
      rw [HW.out] at HC
      go_wp2_with fail
      refine HC.out.mono ?_
      rintro e w2 ⟨A3, c3, rfl, o3, b3⟩
      have hib := (IB.of_own o3).1
      have hmn := mins_len M
      have hmm := mins_lt M
      have hb3 := below_step b1 b3
      clear o3 b3 HC
      go_wp2_with fail
      refine (lists_any A3 c3 _ _ hib hmm (by omega)).mono ?_
      rintro e w6 ⟨A4, c4, rfl, o4, b6⟩
      have HR := Lib.hid (show NewSS2 w (outM M (okX T)) (okX T) (.returned (.tuple #[.slice A4 (mems (mins M)).length c4, .bool true])) w6 by
        rw [HB.out, outM]
        exact ⟨A4, c4, rfl, o4.base hb3.size, below_step hb3 b6⟩)
      clear o4 b6 hib hb3
      go_wp2
      go_ret2
      exact HR.out
    | thr k es =>
      have ht' := ht
      simp only [Tr] at ht'
      obtain ⟨b, _, _, _, rfl, _⟩ := ht'
      have HW : Hid ((List.range 64).filter (satF (.thr k es)) = expM T) := Lib.hid HE.out.symm
      have HC := Lib.hid (whereN k es b _ w1 hw hxl ht)
      clear ht hw hxl HE
      generalize expM T = M at *
      rw [HW.out] at HC
      go_wp2_with fail
      refine HC.out.mono ?_
      rintro e w2 ⟨A3, c3, rfl, o3, b3⟩
      have hib := (IB.of_own o3).1
      have hmn := mins_len M
      have hmm := mins_lt M
      have hb3 := below_step b1 b3
      clear o3 b3 HC
      go_wp2_with fail
      refine (lists_any A3 c3 _ _ hib hmm (by omega)).mono ?_
      rintro e w6 ⟨A4, c4, rfl, o4, b6⟩
      have HR := Lib.hid (show NewSS2 w (outM M (okX T)) (okX T) (.returned (.tuple #[.slice A4 (mems (mins M)).length c4, .bool true])) w6 by
        rw [HB.out, outM]
        exact ⟨A4, c4, rfl, o4.base hb3.size, below_step hb3 b6⟩)
      clear o4 b6 hib hb3
      go_wp2
      go_ret2
      exact HR.out
end Go.Proofs.YtngacjfoldgjpaaGreatDoor
