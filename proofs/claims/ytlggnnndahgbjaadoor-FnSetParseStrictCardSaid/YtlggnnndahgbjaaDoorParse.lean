/- The program's SetParse by its contract: a range over the iterator of all subsets. -/
import Derived.Test.YtlggnnndahgbjaaDoorStrI
import Derived.Test.YtlggnnndahgbjaaDoorImpl
import Derived.RangeFuncNested
import Derived.RangeFuncBound
import Derived.RangeFuncCalls
import Derived.RangeFuncLeaves
import Derived.Shelf.Abstract
import Derived.Shelf.RegionOpen
import Derived.OwnWalkIn
import Derived.TacticsInMore
import Derived.LoopNIn
import Derived.LoopIn
namespace Go.Proofs.YtlggnnndahgbjaaDoor
open Go.RowKit Go.Shelf
attribute [local go_sem] Oper.semAt_some

theorem subset_all (k : Nat) (w : World) (h : k < 64) :
    Calls Tryd.prog 30 #[.int .u8 k, .int .u8 63] w fun e w' => e = .returned (.bool true) ∧ w = w' := by
  have H : ∀ k : Fin 64, (andNot k.val 63 == 0) = true := by decide
  have h2 := subsetOf_bits k 63 w h (by omega)
  rw [H ⟨k, h⟩] at h2
  exact h2

theorem subs_make (w : World) : Calls Tryd.prog 19 #[.int .u8 63] w fun e w' =>
    e = .returned (.func (.func 29) #[] #[.pointer (some ⟨w.heap.size, 0, none⟩)]) ∧ w.alloc (.cells #[.int .u8 63] 35) = w' := by
  have hmf : ∀ (fn : Fn) (first cap : Array Value) (w : World), (Instr.makeFunc fn first cap).run Tryd.prog w = .ok (.func fn first cap) w := fun _ _ _ _ => rfl
  go_enter Tryd.func19, Tryd.ntmps19
  go_wp2
  go_ret
  exact ⟨rfl, rfl⟩

/-- The first k masks. -/
def fr (k : Nat) : List (Fin 64) := (List.finRange 64).take k
theorem fr_succ {k : Nat} (h : k < 64) : fr (k + 1) = fr k ++ [⟨k, h⟩] := by
  unfold fr
  rw [List.take_succ_eq_append_getElem (by simpa using h)]
  simp
theorem fr_len {k : Nat} (h : k ≤ 64) : (fr k).length = k := by simp [fr]; omega
theorem fr_mem {k : Nat} {j : Fin 64} (h : j.val < k) : j ∈ fr k := by
  unfold fr
  rw [List.mem_take_iff_getElem]
  exact ⟨j.val, by simp; omega, by simp⟩

set_option maxRecDepth 100000 in
set_option maxHeartbeats 2000000 in
/-- The iterator yields 0, 1, .. 63, to every loop body that keeps what lay below n₀. -/
theorem subsets_stops (n : Nat) (hn : 2 ≤ n) (Bn n₀ : Nat) (w : World) (hlt : Bn < n₀) (hb : w.cell? ⟨Bn, 0, none⟩ = some (.int .u8 63)) :
    SeqStopsK Fence.wide n Tryd.prog 29 #[.pointer (some ⟨Bn, 0, none⟩)] (fun x : Fin 64 => #[Value.int .u8 (x.val : Int)]) (Below n₀) (fun ys => ys = fr 64) (fun pre => ∃ k, k < 64 ∧ pre = fr (k + 1)) 64 w := fun l J Jx W hW hJ hJx hY h0 => by
  have hbW : W.cell? ⟨Bn, 0, none⟩ = some (.int .u8 63) := (hW.cell (p := ⟨Bn, 0, none⟩) (World.block_lt_of_cell? w _ hb)).trans hb
  refine callsIn_of_wp Tryd.func29 rfl trivial ?_ rfl
  simp only [Tryd.ntmps29, List.size_toArray, List.length_cons, List.length_nil, Nat.reduceAdd, Nat.reduceSub, Array.replicate_succ, Array.replicate_zero, List.push_toArray, List.append_toArray, List.nil_append, List.cons_append]
  gi_wp2
  gi_loopw [3] (fun t wr => ∃ k : Nat, k ≤ 64 ∧ t = .int .u8 k ∧ wr.cell? ⟨Bn, 0, none⟩ = some (.int .u8 63) ∧ J (fr k) wr) (fun t _ => 64 - (intOf t).toNat)
  case atStart => exact ⟨0, by omega, rfl, hbW, h0⟩
  case round =>
    obtain ⟨k, hk, rfl, hc, hJk⟩ := hrel
    by_cases hk64 : k < 64
    · obtain ⟨fn, tmps, assign, body, hy, hR⟩ := hY (fr k) ⟨k, hk64⟩ wr hJk (by rw [fr_len hk]; exact hk64)
      try dsimp only at hy
      have hn1 : 1 ≤ n - 1 := by omega
      gi_wp2_with fail
      refine ⟨trivial, fun _ => by omega, ?_⟩
      refine (callsIn_wide.2 (subset_all k _ hk64)).mono ?_
      rintro e w' ⟨rfl, rfl⟩
      gi_wp2
      refine ⟨fun _ => by omega, hR.mono ?_⟩
      rintro e W3 (⟨rfl, hJ3, hk3⟩ | ⟨rfl, hJx3⟩)
      · have hc3 : W3.cell? ⟨Bn, 0, none⟩ = some (.int .u8 63) := (hk3.cell (p := ⟨Bn, 0, none⟩) hlt).trans hc
        have HJ := Lib.hid (show J (fr (k + 1)) W3 by rw [fr_succ hk64]; exact hJ3)
        clear hJ3
        gi_wp2
        go_roundw
        case rel => exact ⟨k + 1, by omega, by go_num, hc3, HJ.out⟩
        case measure => simp [intOf]; omega
      · have HJ := Lib.hid (show Jx (fr (k + 1)) W3 by rw [fr_succ hk64]; exact hJx3)
        clear hJx3
        gi_wp2
        refine bodyPost_ret (results_none rfl _ _ _) rfl ?_
        exact ⟨⟨_, rfl⟩, .inr ⟨_, ⟨k, hk64, rfl⟩, HJ.out⟩⟩
    · have hkl : k = 64 := by omega
      have HJ := Lib.hid (show J (fr 64) wr by rw [← hkl]; exact hJk)
      clear hkl hJk
      gi_wp2
      go_end0
      exact ⟨⟨_, rfl⟩, .inl ⟨_, rfl, HJ.out⟩⟩

/-- A text is the text of the set with mask k, and of none before. -/
def Hit (t : List UInt8) (k : Nat) : Prop := k < 64 ∧ fmt (mem k) = t
def Miss (t : List UInt8) : Prop := ∀ j, j < 64 → fmt (mem j) ≠ t
theorem keeps_below {W W' : World} (h : Below W.heap.size W W') : KeepsOthers W W' :=
  ⟨h.size, fun k _ hk _ => (h.block k (Array.getElem?_eq_some_iff.1 hk).1).trans hk⟩
theorem own_turn {A B : World} {row : Option Nat} {base : Nat} {v : Value} {n : Nat} {xs : List Value} (h : A.ownsRow base 3 1 v n xs) (hg : A.grownBy B row) (hr : ∀ r, row = some r → ∃ o, A.heap[r]? = some o ∧ o.isCells = false) : B.ownsRow base 3 1 v n xs := by
  refine h.kept hg ?_
  rcases h.2 with ⟨rfl, _⟩ | ⟨g, cap, cur, rfl, _, hh, _⟩
  · left; rfl
  · right
    intro e
    obtain ⟨o, ho, hn⟩ := hr g e.symm
    rw [hh] at ho
    injection ho with ho
    subst ho
    simp [Obj.isCells] at hn

theorem new_cell (W : World) (v : Value) (t : TypeId) : (W.alloc (.cells #[v] t)).cell? ⟨W.heap.size, 0, none⟩ = some v ∧ (W.alloc (.cells #[v] t)).frozen? ⟨W.heap.size, 0, none⟩ = false :=
  ⟨by rw [cell_of_row _ W.heap.size 0 _ _ (0, 0) (heap_alloc_new W _)]; rfl, frozen_of_row _ W.heap.size 0 _ _ (heap_alloc_new W _)⟩
theorem old_cell {W : World} {a : Addr} {v : Value} (o : Obj) (h : W.cell? a = some v) : (W.alloc o).cell? a = some v := cell_kept h (World.grownBy_alloc W o none) (fun r e => by cases e)
theorem old_free {W : World} {a : Addr} {v : Value} (o : Obj) (h : W.cell? a = some v) (hf : W.frozen? a = false) : (W.alloc o).frozen? a = false := (frozen_kept h (World.grownBy_alloc W o none) (fun r e => by cases e)).trans hf
/-- What lies between two rounds. -/
abbrev Between (t : ByteArray) (w : World) (pre : List (Fin 64)) (W : World) : Prop :=
  (w.heap.size + 1 + 1 + 1 + 1 ≤ W.heap.size ∧ (∀ k ∈ pre, fmt (mem k.val) ≠ t.toList) ∧ W.cell? ⟨w.heap.size, 0, none⟩ = some (.string t) ∧ W.cell? ⟨w.heap.size + 1, 0, none⟩ = some (.slice none 0 0) ∧ W.frozen? ⟨w.heap.size + 1, 0, none⟩ = false ∧
    W.cell? ⟨w.heap.size + 1 + 1, 0, none⟩ = some (.bool false) ∧ W.frozen? ⟨w.heap.size + 1 + 1, 0, none⟩ = false) ∧ Below w.heap.size w W
/-- What lies behind the round that has found it. -/
abbrev Found (t : ByteArray) (w : World) (c : Code) (_pre : List (Fin 64)) (W : World) : Prop :=
  (c = .ret ∧ ∃ (k : Fin 64) (A : Option Addr) (cc : Nat), fmt (mem k.val) = t.toList ∧
    W.cell? ⟨w.heap.size + 1, 0, none⟩ = some (.slice A (mem k.val).length cc) ∧ W.cell? ⟨w.heap.size + 1 + 1, 0, none⟩ = some (.bool true) ∧
    W.ownsRow w.heap.size 3 1 (.slice A (mem k.val).length cc) (mem k.val).length ((mem k.val).map (Value.int .i64))) ∧ Below w.heap.size w W

theorem found_end {t : ByteArray} {w W w' w2 : World} {x : Fin 64} {A : Option Addr} {c : Nat} (hB : Below w.heap.size w W) (B2 : Below W.heap.size W w2) (hsz : w.heap.size + 1 + 1 + 1 + 1 ≤ W.heap.size)
    (hr1 : W.cell? ⟨w.heap.size + 1, 0, none⟩ = some (.slice none 0 0)) (hr2 : W.cell? ⟨w.heap.size + 1 + 1, 0, none⟩ = some (.bool false))
    (o : w2.ownsRow w'.heap.size 3 1 (.slice A (mem x.val).length c) (mem x.val).length ((mem x.val).map (Value.int .i64))) (hs1 : w.heap.size + 1 + 1 + 1 + 1 ≤ w'.heap.size) (hq : fmt (mem x.val) = t.toList) {pre : List (Fin 64)} :
    KeepsOthers W ((w2.setCell ⟨w.heap.size + 1, 0, none⟩ (.slice A (mem x.val).length c)).setCell ⟨w.heap.size + 1 + 1, 0, none⟩ (.bool true)) ∧
      Found t w .ret pre ((w2.setCell ⟨w.heap.size + 1, 0, none⟩ (.slice A (mem x.val).length c)).setCell ⟨w.heap.size + 1 + 1, 0, none⟩ (.bool true)) := by
  have hr1' := (B2.cell (p := ⟨w.heap.size + 1, 0, none⟩) (by dsimp only; omega)).trans hr1
  have hr2' := (B2.cell (p := ⟨w.heap.size + 1 + 1, 0, none⟩) (by dsimp only; omega)).trans hr2
  refine ⟨((keeps_below B2).trans (KeepsOthers.setCell _ _ _)).trans (KeepsOthers.setCell _ _ _), ⟨rfl, x, A, c, hq, ?_, ?_, ?_⟩, ?_⟩
  · rw [World.cell?_setCell_other _ _ _ _ (by simp)]
    exact World.cell?_setCell_same' _ _ _ (by rw [hr1']; rfl)
  · exact World.cell?_setCell_same' _ _ _ (by rw [World.cell?_setCell_other _ _ _ _ (by simp), hr2']; rfl)
  · exact own_base (ownsRow_setCell_below (ownsRow_setCell_below o (by dsimp only; omega) _) (by dsimp only; omega) _) (by omega)
  · exact ((below_step hB B2).setCell (p := ⟨w.heap.size + 1, 0, none⟩) (by dsimp only; omega) _).setCell (p := ⟨w.heap.size + 1 + 1, 0, none⟩) (by dsimp only; omega) _

set_option maxRecDepth 100000 in
set_option maxHeartbeats 4000000 in
theorem implParse_any (t : ByteArray) (w : World) :
    Calls Tryd.prog 8 #[.string t] w fun e w' => (∃ k, Hit t.toList k ∧ New2 w (mem k) true e w') ∨ (Miss t.toList ∧ New2 w [] false e w') := by
  refine (callsIn_wide (n := 6)).1 ?_
  refine callsIn_of_wp_marks Tryd.func8 rfl trivial ?_ rfl
  simp only [Tryd.ntmps8, List.size_toArray, List.length_cons, List.length_nil, Nat.reduceAdd, Nat.reduceSub, Array.replicate_succ, Array.replicate_zero, List.push_toArray, List.append_toArray, List.nil_append, List.cons_append]
  gi_wp2_with fail
  refine ⟨trivial, ?_⟩
  refine (callsIn_wide.2 (subs_make _)).mono ?_
  rintro e w' ⟨rfl, rfl⟩
  gi_wp2_with fail
  have c0 := new_cell w (.string t) 9
  have c1 := new_cell (w.alloc (.cells #[.string t] 9)) (.slice none 0 0) 23
  have c2 := new_cell ((w.alloc (.cells #[.string t] 9)).alloc (.cells #[.slice none 0 0] 23)) (.bool false) 4
  have c3 := new_cell (((w.alloc (.cells #[.string t] 9)).alloc (.cells #[.slice none 0 0] 23)).alloc (.cells #[.bool false] 4)) (.int .u8 63) 35
  simp only [World.size_alloc] at c1 c2 c3
  have hB0 : Below w.heap.size w ((((w.alloc (.cells #[.string t] 9)).alloc (.cells #[.slice none 0 0] 23)).alloc (.cells #[.bool false] 4)).alloc (.cells #[.int .u8 63] 35)) :=
    ((((Below.refl _ w).alloc (Nat.le_refl _) _).alloc (by simp) _).alloc (by simp; omega) _).alloc (by simp; omega) _
  refine wpIn_rangeFunc_ownF rfl (by omega) (gf := 29) (lb := #[.pointer (some ⟨w.heap.size + 1 + 1 + 1, 0, none⟩)]) (by simp [Act.eval]) trivial (enters_of Tryd.func29 (by kernel_rfl) rfl)
    (subsets_stops 5 (by omega) (w.heap.size + 1 + 1 + 1) (w.heap.size + 1 + 1 + 1 + 1) _ (by omega) c3.1) belowK_t (belowK_b (by simp)) (Below.refl _ _) (fun _ => rfl)
    (Between t w) (Found t w)
    (OwnFrom.and (Own.from (fun s A B row hs hg hr => ⟨Nat.le_trans hs.1 hg.size, hs.2.1, cell_kept hs.2.2.1 hg hr, cell_kept hs.2.2.2.1 hg hr, (frozen_kept hs.2.2.2.1 hg hr).trans hs.2.2.2.2.1, cell_kept hs.2.2.2.2.2.1 hg hr, (frozen_kept hs.2.2.2.2.2.1 hg hr).trans hs.2.2.2.2.2.2⟩) _) (ownFrom_below (Nat.le_refl _) (by simp; omega)))
    (fun c => OwnFrom.and (Own.from (fun s A B row ⟨hc, k, A', cc, h1, h2, h3, h4⟩ hg hr => ⟨hc, k, A', cc, h1, cell_kept h2 hg hr, cell_kept h3 hg hr, own_turn h4 hg hr⟩) _) (ownFrom_below (Nat.le_refl _) (by simp; omega)))
    ⟨⟨by simp, by simp, old_cell _ (old_cell _ (old_cell _ c0.1)), old_cell _ (old_cell _ c1.1), old_free _ (old_cell _ c1.1) (old_free _ c1.1 c1.2), old_cell _ c2.1, old_free _ c2.1 c2.2⟩, hB0⟩
    (fun x => { tmps := #[.string t, .pointer (some ⟨w.heap.size, 0, none⟩), .pointer (some ⟨w.heap.size + 1, 0, none⟩), .pointer (some ⟨w.heap.size + 1 + 1, 0, none⟩), .int .u8 (x.val : Int), .func (.func 29) #[] #[.pointer (some ⟨w.heap.size + 1 + 1 + 1, 0, none⟩)], .int .u8 (x.val : Int), undef, undef, undef, undef, undef, undef], defers := [] }) ?assign ?body ?done ?stop
  case assign =>
    intro l x W K hK
    gi_wp2
    exact hK
  case body =>
    rintro l pre x W ⟨⟨hsz, hp, ht, hr1, hf1, hr2, hf2⟩, hB⟩ _
    have hx := x.isLt
    have hlt0 : w.heap.size < W.heap.size := by omega
    have hmx : Tryd.prog.follows .mixedOrders = true := by kernel_rfl
    have hd : 1 ≤ 6 - 1 - 1 := by omega
    cases hq : (fmt (mem x.val) == t.toList)
    · have HQ := Lib.hid (show fmt (mem x.val) ≠ t.toList by intro h; rw [h] at hq; simp at hq)
      gi_wp2
      gi_region_with_o (refine ⟨trivial, ?_⟩; gi_at_call 16; refine (CallsIn.inRound l (callsIn_wide.2 (format_any x.val _ hx))).mono ?_; rintro e w' ⟨rfl, b⟩; have ht2 := (b.cell (p := ⟨w.heap.size, 0, none⟩) hlt0).trans ht)
      all_goals gi_wp2
      all_goals
        have B1 : Below W.heap.size W w' := ⟨b.os, b.tape, b.output, b.size, b.block⟩
        exact ⟨keeps_below B1, B1.mono hsz, ⟨Nat.le_trans hsz B1.size, fun k hk => (List.mem_append.1 hk).elim (hp k) (fun e => by simp at e; subst e; exact HQ.out), (B1.cell (p := ⟨w.heap.size, 0, none⟩) hlt0).trans ht, (B1.cell (p := ⟨w.heap.size + 1, 0, none⟩) (by dsimp only; omega)).trans hr1, (B1.frozen (p := ⟨w.heap.size + 1, 0, none⟩) (by dsimp only; omega)).trans hf1,
          (B1.cell (p := ⟨w.heap.size + 1 + 1, 0, none⟩) (by dsimp only; omega)).trans hr2, (B1.frozen (p := ⟨w.heap.size + 1 + 1, 0, none⟩) (by dsimp only; omega)).trans hf2⟩, below_step hB B1⟩
    · have HQ := Lib.hid (show fmt (mem x.val) = t.toList from eq_of_beq hq)
      gi_wp2
      gi_region_with_o (refine ⟨trivial, ?_⟩; gi_at_call 16; refine (CallsIn.inRound l (callsIn_wide.2 (format_any x.val _ hx))).mono ?_; rintro e w' ⟨rfl, b⟩; have ht2 := (b.cell (p := ⟨w.heap.size, 0, none⟩) hlt0).trans ht)
      all_goals gi_wp2_with fail
      all_goals
        refine ⟨trivial, ?_⟩
        refine (CallsIn.inRound l (callsIn_wide.2 (members_any x.val _ hx))).mono ?_
        rintro e w2 ⟨A, c, rfl, o, b2⟩
        have B1 : Below W.heap.size W w' := ⟨b.os, b.tape, b.output, b.size, b.block⟩
        have B2 := below_step B1 b2
        have hs1 := B1.size
        have R := found_end (pre := pre ++ [x]) (x := x) hB B2 hsz hr1 hr2 o (Nat.le_trans hsz hs1) HQ.out
        have HR := Lib.hid R
        have hr1' := (B2.cell (p := ⟨w.heap.size + 1, 0, none⟩) (by dsimp only; omega)).trans hr1
        have hf1' := (B2.frozen (p := ⟨w.heap.size + 1, 0, none⟩) (by dsimp only; omega)).trans hf1
        have hr2' := (B2.cell (p := ⟨w.heap.size + 1 + 1, 0, none⟩) (by dsimp only; omega)).trans hr2
        have hf2' := (B2.frozen (p := ⟨w.heap.size + 1 + 1, 0, none⟩) (by dsimp only; omega)).trans hf2
        clear R o b b2 B1 B2 hs1
        gi_wp2
        exact HR.out
  case done =>
    rintro D ys W hD rfl ⟨⟨hsz, hne, ht, hr1, hf1, hr2, hf2⟩, hB⟩ hK
    gi_wp2
    have hK' := ((KeepsOthers.setCell W ⟨w.heap.size + 1, 0, none⟩ (.slice none 0 0)).trans (KeepsOthers.setCell _ ⟨w.heap.size + 1 + 1, 0, none⟩ (.bool false))).same D _ hK rfl
    refine ⟨by simp, .inl ⟨_, _, rfl, run_takeDeferred hK', ?_⟩⟩
    have e1 : ((W.setCell ⟨w.heap.size + 1, 0, none⟩ (.slice none 0 0)).setCell ⟨w.heap.size + 1 + 1, 0, none⟩ (.bool false)).cell? ⟨w.heap.size + 1, 0, none⟩ = some (.slice none 0 0) := by
      rw [World.cell?_setCell_other _ _ _ _ (by simp)]
      exact World.cell?_setCell_same' _ _ _ (by rw [hr1]; rfl)
    have e2 : ((W.setCell ⟨w.heap.size + 1, 0, none⟩ (.slice none 0 0)).setCell ⟨w.heap.size + 1 + 1, 0, none⟩ (.bool false)).cell? ⟨w.heap.size + 1 + 1, 0, none⟩ = some (.bool false) :=
      World.cell?_setCell_same' _ _ _ (by rw [World.cell?_setCell_other _ _ _ _ (by simp), hr2]; rfl)
    have hc5 := cell_kept e1 (grownBy_putObj' _ D (.deferred none)) (fun r e => by cases e; exact ⟨_, hK', rfl⟩)
    have hc6 := cell_kept e2 (grownBy_putObj' _ D (.deferred none)) (fun r e => by cases e; exact ⟨_, hK', rfl⟩)
    refine ⟨.tuple #[.slice none 0 0, .bool false], ?_, .inr ⟨fun j hj => hne ⟨j, hj⟩ (fr_mem hj), ⟨none, 0, rfl, World.ownsRow_nil _ _ _ _,
      ((hB.setCell (p := ⟨w.heap.size + 1, 0, none⟩) (by dsimp only; omega) _).setCell (p := ⟨w.heap.size + 1 + 1, 0, none⟩) (by dsimp only; omega) _).trans (belowK_b (w := w) (Nat.le_refl _) _ D _ _ (by simp at hD; omega) hK' rfl rfl)⟩⟩⟩
    simp [results, Tryd.f8, go_sem, hc5, hc6]
  case stop =>
    rintro D c pre W hD hpre ⟨⟨rfl, k, A, cc, hq, hc1, hc2, ho⟩, hB⟩ hK
    gi_wp2
    refine ⟨by simp, .inl ⟨_, _, rfl, run_takeDeferred hK, ?_⟩⟩
    have hc5 := cell_kept hc1 (grownBy_putObj' _ D (.deferred none)) (fun r e => by cases e; exact ⟨_, hK, rfl⟩)
    have hc6 := cell_kept hc2 (grownBy_putObj' _ D (.deferred none)) (fun r e => by cases e; exact ⟨_, hK, rfl⟩)
    refine ⟨.tuple #[.slice A (mem k.val).length cc, .bool true], ?_, .inl ⟨k.val, ⟨k.isLt, hq⟩, ⟨A, cc, rfl, own_turn ho (grownBy_putObj' _ D (.deferred none)) (fun r e => by cases e; exact ⟨_, hK, rfl⟩),
      hB.trans (belowK_b (w := w) (Nat.le_refl _) W D _ _ (by simp at hD; omega) hK rfl rfl)⟩⟩⟩
    simp [results, Tryd.f8, go_sem, hc5, hc6]
end Go.Proofs.YtlggnnndahgbjaaDoor
