/- A run read out of an instance, by contracts. -/
import Derived.Test.YtbkdhjmfphhhoaaGm
import Derived.Test.YtbkdhjmfphhhoaaGk
import Derived.Lib.SliceRun
namespace Go.Proofs.Ytbkdhjmfphhhoaa
open Go.RowKit

/-- Behind an append to a row of other elements than ints: the rows that it holds. -/
theorem rows_app3 {lo hi lo2 hi2 n e s : Nat} {w1 w2 : World} {F : List (List Int)} {rs xs : List Value} {l : List Int} {x v : Value} {o : Obj}
    (hrows : Rws w1 lo hi F rs) (hx : RowAt w1 lo2 hi2 l x) (h1 : hi ≤ lo2) (h2 : lo ≤ lo2) (h3 : lo2 ≤ hi2) (hown : w1.ownsRow lo e s v n xs) (hne : e ≠ 3) (hg : (w1.alloc o).grownBy w2 v.ownBlock) :
    Rws w2 lo w2.heap.size (F ++ [l]) (rs ++ [x]) := by
  have hh : hi2 ≤ w1.heap.size := by obtain ⟨_, _, _, ho⟩ := hx; exact ho.2.1
  have hR := hrows.snoc hx h1 h2 (by omega)
  have hsz : w1.heap.size ≤ w2.heap.size := by have := hg.size; simp at this; omega
  refine Rws.hi_le (hi := hi2) (hR.at_ (Nat.le_trans hh hsz) fun g _ h5 ⟨cur, hc⟩ => ?_) (Nat.le_trans hh hsz) (Nat.le_refl _)
  rw [hg.block g (by simp; omega) ?_, Below.heap_alloc w1 _ g (by omega)]
  intro e'
  obtain ⟨cur2, hc2⟩ := own_obj hown g e'.symm
  rw [hc] at hc2
  injection hc2 with hc2
  injection hc2 with _ hc2
  exact hne hc2.symm
theorem app_gen3 {w wr w1 : World} {base e s : Nat} {v : Value} {o : Obj} {n : Nat} {xs : List Value} (hown : wr.ownsRow base e s v n xs) (hbase : w.heap.size ≤ base) (hb : Below w.heap.size w wr) (hg : (wr.alloc o).grownBy w1 v.ownBlock) : Below w.heap.size w w1 :=
  (hb.alloc hb.size o).grown hg (by have := hb.size; simp; omega) (fun k hk => Nat.le_trans hbase (hown.lt k hk).1)
theorem own_slice_any {w : World} {base e s n : Nat} {v : Value} {xs : List Value} (h : w.ownsRow base e s v n xs) : ∃ A c, v = .slice A n c := by
  rcases h.2 with ⟨rfl, rfl⟩ | ⟨g, cap, cur, rfl, _⟩
  · exact ⟨_, _, rfl⟩
  · exact ⟨_, _, rfl⟩
theorem prsTo_len (tl : List Tl) (k : Nat) : (prsTo tl k).length ≤ k := by
  induction k with
  | zero => simp [prsTo]
  | succ k ih =>
    rw [prsTo_succ, List.length_append]
    have : (prB tl k).length ≤ 1 := by unfold prB; split <;> simp
    omega

set_option maxRecDepth 100000 in
set_option maxHeartbeats 800000 in
theorem cloneA_any (a : Addr) (l : List Ac) (c : Nat) (w : World) (hc : ∀ j v, (acs l)[j]? = some v → w.cell? (a.add j) = some v) (hl : l.length ≤ 1048576) :
    Calls Try.prog 110 #[.slice (some a) l.length c] w fun e w' =>
      ∃ A d, e = .returned (.slice A l.length d) ∧ w'.ownsRow w.heap.size 35 3 (.slice A l.length d) l.length (acs l) ∧ Below w.heap.size w w' := by
  obtain ⟨i0, hi0, hz0, hz1, hz2⟩ := info_parts acp_info
  have hc2 : ∀ j v, (acs l)[j]? = some v → (w.alloc (.cells #[] 35)).cell? (a.add j) = some v := fun j v hv => by
    have h := hc j v hv
    exact (World.cell?_of_block (Below.heap_alloc w _ _ (World.block_lt_of_cell? w _ h))).trans h
  have ho : (w.alloc (.cells #[] 35)).ownsRow w.heap.size 35 3 (.slice (some ⟨w.heap.size, 0, none⟩) 0 0) 0 [] :=
    World.ownsRow_made (base := w.heap.size) (size := 3) (e := 35) w #[] 0 (Nat.le_refl _) (by unfold maxLen; omega) (by simp)
  have hb : Below w.heap.size w (w.alloc (.cells #[] 35)) := (Below.refl _ w).alloc (Nat.le_refl _) _
  have q27 : ∀ (w : World) (a : Option Addr) (n c : Nat), (binOp .eql 27 (.slice a n c) (.slice none 0 0)).run Try.prog w = .ok (.bool a.isNone) w := fun w a n c => Lib.run_eql_slice_nil w _ _ a n c 0 0 Try.underlying27
  have HB := Lib.hid (And.intro hb hl)
  clear hb hc
  go_enter Try.func110, Try.ntmps110
  go_wp2_with (at_builtin; refine wpList_append_own _ rfl (.tmp 5) (.tmp 6) 27 rfl w.heap.size 35 i0 (AVal 0 0 0) 3 24 Try.underlying27 hi0 hz0 hz1 hz2 rfl (by decide) _ _ _ rfl ho a l.length c (acs l) rfl (acs_len l) hc2 acs_one (by have := HB.out.2; unfold maxLen; omega) (by have := HB.out.2; omega) (by simp) ?_)
  intro v' w2 ho2 hg2 _
  have ho3 : w2.ownsRow w.heap.size 35 3 v' l.length (acs l) := by simpa using ho2
  obtain ⟨A, d, rfl⟩ := own_slice_any ho3
  have HR := Lib.hid (And.intro ho3 (show Below w.heap.size w w2 from HB.out.1.grown hg2 (by simp) (fun g hg => by cases hg; exact Nat.le_refl _)))
  clear ho2 hg2 ho3 ho hc2
  go_wp2
  go_ret
  exact ⟨A, d, rfl, HR.out.1, HR.out.2⟩
theorem cloneA_n (a : Addr) (l : List Ac) (n c : Nat) (w : World) (hn : l.length = n) (hc : ∀ j v, (acs l)[j]? = some v → w.cell? (a.add j) = some v) (hl : n ≤ 1048576) :
    Calls Try.prog 110 #[.slice (some a) n c] w fun e w' =>
      ∃ A d, e = .returned (.slice A l.length d) ∧ w'.ownsRow w.heap.size 35 3 (.slice A l.length d) l.length (acs l) ∧ Below w.heap.size w w' := by
  subst hn
  exact cloneA_any a l c w hc hl
theorem res_run {W : World} {b : Nat} {p q x y : Value} (tmps : Array Value) (h2 : tmps.getD 2 undef = .pointer (some ⟨b, 0, none⟩)) (h : RB W b p q x y) :
    (results Try.f58 tmps).run Try.prog W = .ok (.agg #[p, q, x, y]) W := by
  have q0 := h.c0
  have q1 := h.c1
  have q2 := h.c2
  have q3 := h.c3
  rw [results_one rfl, h2]
  go_simp
end Go.Proofs.Ytbkdhjmfphhhoaa
