/- Drawn sets by their contracts. -/
import Derived.Test.YtimijinldhpmfaaDraw
import Derived.Test.YtimijinldhpmfaaOwn
namespace Go.Proofs.Ytimijinldhpmfaa
open Go.RowKit

/-- A drawn set, told by how far the reader has come. -/
def DrawnAt (w : World) (g p : Nat) (e : Ending) (w' : World) : Prop :=
  ∃ (l : List Int) (A : Option Addr) (c q : Nat), l.length ≤ 7 ∧ e = .returned (.slice A l.length c) ∧ w'.ownsRow w.heap.size 3 1 (.slice A l.length c) l.length (l.map (Value.int .i64)) ∧ RdX w' g q ∧ q ≤ p + 3 ∧ w.grownBy w' (some g)
theorem DrawnAt.mk {w w' : World} {g p q : Nat} {l : List Int} {v : Value} (hl : l.length ≤ 7) (h : w'.ownsRow w.heap.size 3 1 v l.length (l.map (Value.int .i64))) (hr : RdX w' g q) (hp : q ≤ p + 3) (hg : w.grownBy w' (some g)) : DrawnAt w g p (.returned v) w' := by
  obtain ⟨A, c, rfl⟩ := own_slice h
  exact ⟨l, A, c, q, hl, rfl, h, hr, hp, hg⟩
theorem drawnAt_app {w w3 w4 : World} {g p q : Nat} {l : List Int} {v v' : Value} {x : Int} {o : Obj} (hl : l.length ≤ 6) (hlt : g < w.heap.size)
    (hg2 : w.grownBy w3 (some g)) (hr : RdX w3 g q) (hp : q ≤ p + 3) (hv : ∀ k, v.ownBlock = some k → w.heap.size ≤ k)
    (ho : w4.ownsRow w.heap.size 3 1 v' (l.length + 1) (l.map (Value.int .i64) ++ [.int .i64 x])) (hg : (w3.alloc o).grownBy w4 v.ownBlock) : DrawnAt w g p (.returned v') w4 := by
  have hg3 : w3.grownBy w4 v.ownBlock := ⟨hg.os, hg.tape, hg.output, Nat.le_trans (by simp) hg.size, fun i hi hne => (hg.block i (by simp; omega) hne).trans (Below.heap_alloc w3 o i hi)⟩
  exact DrawnAt.mk (l := l ++ [x]) (q := q) (by simp; omega) (by simpa using ho) (hr.grown hg3 fun k hk => Nat.lt_of_lt_of_le hlt (hv k hk)) hp (grown_new hg2 hg3 hv)
theorem drawnAt_lit {w w1 : World} {g p q : Nat} (cs : List Int) (hc : cs.length ≤ 7) (hr : RdX w1 g q) (hp : q ≤ p + 3) (hg : w.grownBy w1 (some g)) :
    DrawnAt w g p (.returned (.slice (some ⟨w1.heap.size, 0, none⟩) cs.length cs.length)) (w1.alloc (.cells (cs.map (Value.int .i64)).toArray 3)) := by
  have ho := World.ownsRow_lit (base := w.heap.size) (e := 3) (size := 1) w1 (cs.map (Value.int .i64)).toArray cs.length hg.size (by unfold maxLen; omega) (by simp)
  refine DrawnAt.mk (l := cs) (q := q) hc (by simpa using ho) (hr.below ((Below.refl _ _).alloc (Nat.le_refl _) _)) hp (grown_below hg ((Below.refl _ _).alloc (Nat.le_refl _) _))

/-- Two drawn sets in two new rows. -/
def Drawn2 (w : World) (e : Ending) (w' : World) : Prop :=
  ∃ (a b : List Int) (A B : Option Addr) (c d : Nat), a.length ≤ 7 ∧ b.length ≤ 7 ∧ e = .returned (.tuple #[.slice A a.length c, .slice B b.length d]) ∧ IL w' A a ∧ IL w' B b ∧ Below w.heap.size w w'

set_option maxRecDepth 100000 in
set_option maxHeartbeats 400000 in
/-- Two slices that read as one list are the same. -/
theorem sameInts_yes (A B : Option Addr) (c d : Nat) (l : List Int) (w : World) (ha : IL w A l) (hb : IL w B l) (hl : l.length ≤ 1048576) :
    Calls Try.prog 24 #[.slice A l.length c, .slice B l.length d] w fun e w' => e = .returned (.bool true) ∧ Below w.heap.size w w' := by
  go_enter Try.func24, Try.ntmps24
  go_wp2
  go_loopw [5] (fun i wr => ∃ k : Nat, k ≤ l.length ∧ i = .int .i64 k ∧ Below w.heap.size w wr) (fun i _ => l.length - (intOf i).toNat)
  case atStart => exact ⟨0, Nat.zero_le _, rfl, Below.refl _ _⟩
  case round =>
    obtain ⟨k, hk, rfl, hbel⟩ := hrel
    by_cases hlt : k < l.length
    · obtain ⟨b, off, x, rfl, hx, hc⟩ := (ha.below hbel).at_ hlt
      obtain ⟨b', off', x', rfl, hx', hc'⟩ := (hb.below hbel).at_ hlt
      obtain rfl : x = x' := by rw [hx] at hx'; injection hx'
      clear hx hx'
      have hki : (0 : Int) ≤ (k : Int) := by omega
      have hki2 : (k : Int) < (l.length : Int) := by omega
      go_wp2
      go_quiet (fail)
      go_wp2
      go_roundw
      case rel => exact ⟨k + 1, by omega, by go_num, below_drewN hbel _⟩
      case measure => simp [intOf]; omega
    · go_wp2
      go_ret
      exact ⟨rfl, hbel⟩

/-- A []byte that came in, as the row's opening gives it. -/
theorem bl_of_row {w : World} {a : Option Addr} {len cap : Nat} {zs : List Int}
    (h : (a = none ∧ len = 0 ∧ cap = 0 ∧ zs = []) ∨ ∃ x, a = some x ∧ len ≤ cap ∧ cap ≤ maxLen ∧ zs.length = cap ∧ (∀ i, i < zs.length → w.cell? (x.add i) = some (.int .u8 (zs.getD i 0))) ∧ ∀ n ∈ zs, (Lit.int .u8 n).wf = true) :
    ∃ l : List Int, l.length = len ∧ len ≤ cap ∧ cap ≤ maxLen ∧ BL w a l := by
  rcases h with ⟨rfl, rfl, rfl, _⟩ | ⟨x, rfl, hl, hm, hz, hc, hwf⟩
  · exact ⟨[], rfl, by omega, by unfold maxLen; omega, .inl rfl⟩
  · refine ⟨zs.take len, by simp; omega, hl, hm, ?_⟩
    rcases Nat.eq_zero_or_pos len with h0 | h0
    · subst h0; left; simp
    · right
      obtain ⟨b, off, spot⟩ := x
      have hspot : spot = none := by simpa [Addr.add] using World.cell?_spot (hc 0 (by omega))
      subst hspot
      refine ⟨b, off, rfl, World.block_lt_of_cell? w _ (hc 0 (by omega)), fun j x hx => ?_⟩
      obtain ⟨hj, hx⟩ := List.getElem?_eq_some_iff.1 hx
      simp at hj hx
      have h1 := hc j (by omega)
      rw [Addr.add_lit] at h1
      have h2 : zs.getD j 0 = x := by rw [← hx]; simp [List.getD, show j < zs.length by omega]
      have h3 := hwf x (by rw [← hx]; exact List.getElem_mem _)
      rw [h1, h2]
      exact ⟨rfl, by simp [Lit.wf, IntKind.min, IntKind.max, IntKind.signed, IntKind.bits] at h3; omega⟩
end Go.Proofs.Ytimijinldhpmfaa
