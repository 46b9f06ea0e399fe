/- The program's heap of sets: its methods, by their contracts. -/
import Derived.Test.YtgbijndfpbcjeaaFamI
import Derived.Test.YtgbijndfpbcjeaaHeapM
import Derived.BigRegion
namespace Go.Proofs.Ytgbijndfpbcjeaa
open Go.RowKit

/-- The heap at block p holds the masks a; they lie at the head of block g. -/
def HG (w : World) (p g c : Nat) (a : List Nat) : Prop :=
  w.heap[p]? = some (.cells #[.slice (some ⟨g, 0, none⟩) a.length c] 58 (0, 0)) ∧
  w.ownsRow 0 59 1 (.slice (some ⟨g, 0, none⟩) a.length c) a.length (ubs a)
section
variable {w w' : World} {p g c : Nat} {a : List Nat}
theorem HG.c0 (h : HG w p g c a) : w.cell? ⟨p, 0, none⟩ = some (.slice (some ⟨g, 0, none⟩) a.length c) := by rw [cell_of_row w p 0 _ _ (0, 0) h.1]; rfl
theorem HG.f0 (h : HG w p g c a) : w.frozen? ⟨p, 0, none⟩ = false := frozen_of_row w p 0 _ _ h.1
theorem HG.at_ (h : HG w p g c a) {i : Nat} (hi : i < a.length) : w.cell? ⟨g, i, none⟩ = some (.int .u8 ((a.getD i 0 : Nat) : Int)) := by
  rw [h.2.cellAt i (by omega)]
  simp [ubs, hi]
theorem HG.fz (h : HG w p g c a) (i : Nat) : w.frozen? ⟨g, i, none⟩ = false := h.2.frozenAt i
theorem HG.lt (h : HG w p g c a) : p < w.heap.size ∧ g < w.heap.size := ⟨(Array.getElem?_eq_some_iff.1 h.1).1, (h.2.lt g rfl).2⟩
theorem HG.ne (h : HG w p g c a) : p ≠ g := by
  rintro rfl
  obtain ⟨cur, h2⟩ := own_cells h.2 p rfl
  have h1 := h.1
  rw [h2] at h1
  injection h1 with h1
  injection h1 with _ h1
  exact absurd h1 (by decide)
theorem HG.kept (h : HG w p g c a) (hp : w'.heap[p]? = w.heap[p]?) (hg : w'.heap[g]? = w.heap[g]?) : HG w' p g c a :=
  ⟨hp.trans h.1, own_at h.2 fun k hk => by cases hk; exact hg⟩
theorem HG.drew (h : HG w p g c a) (n : Nat) : HG (w.drewN n) p g c a := h
theorem HG.drw (h : HG w p g c a) (hd : Drew w w') : HG w' p g c a := by obtain ⟨n, rfl⟩ := hd; exact h
theorem ubs_set (a : List Nat) (i m : Nat) : (ubs a).set i (.int .u8 (m : Int)) = ubs (a.set i m) := by simp [ubs, List.map_set]
theorem HG.stored (h : HG w p g c a) (i m : Nat) : HG (w.setCell ⟨g, i, none⟩ (.int .u8 (m : Int))) p g c (a.set i m) := by
  have hne := h.ne
  refine ⟨?_, ?_⟩
  · rw [List.length_set]
    exact (Below.heap_setCell w ⟨g, i, none⟩ _ p hne).trans h.1
  · have := (h.2.stored i (.int .u8 (m : Int))).1
    rw [ubs_set] at this
    rw [List.length_set]
    exact this
end
/-- Only block p and block g have been written. -/
structure Two (p g : Nat) (w w' : World) : Prop where
  os : w'.os = w.os
  tape : w'.tape = w.tape
  output : w'.output = w.output
  size : w.heap.size = w'.heap.size
  block : ∀ i, i ≠ p → i ≠ g → w'.heap[i]? = w.heap[i]?
theorem Two.refl (p g : Nat) (w : World) : Two p g w w := ⟨rfl, rfl, rfl, rfl, fun _ _ _ => rfl⟩
theorem Two.trans {p g : Nat} {a b c : World} (h : Two p g a b) (k : Two p g b c) : Two p g a c :=
  ⟨k.os.trans h.os, k.tape.trans h.tape, k.output.trans h.output, h.size.trans k.size, fun i h1 h2 => (k.block i h1 h2).trans (h.block i h1 h2)⟩
theorem Two.drew {p g : Nat} {a b : World} (h : Two p g a b) (n : Nat) : Two p g a (b.drewN n) := ⟨h.os, h.tape, h.output, h.size, h.block⟩
theorem Two.drw {p g : Nat} {a b c : World} (h : Two p g a b) (hd : Drew b c) : Two p g a c := by obtain ⟨n, rfl⟩ := hd; exact h.drew n
theorem Two.setG {p g : Nat} {a b : World} (h : Two p g a b) (i : Nat) (v : Value) : Two p g a (b.setCell ⟨g, i, none⟩ v) :=
  ⟨h.os, h.tape, h.output, by rw [h.size]; simp [World.setCell], fun k h1 h2 => (Below.heap_setCell b ⟨g, i, none⟩ v k h2).trans (h.block k h1 h2)⟩
theorem Two.setP {p g : Nat} {a b : World} (h : Two p g a b) (i : Nat) (v : Value) : Two p g a (b.setCell ⟨p, i, none⟩ v) :=
  ⟨h.os, h.tape, h.output, by rw [h.size]; simp [World.setCell], fun k h1 h2 => (Below.heap_setCell b ⟨p, i, none⟩ v k h1).trans (h.block k h1 h2)⟩

set_option maxRecDepth 100000 in
set_option maxHeartbeats 400000 in
theorem heapLen_any (p g c : Nat) (a : List Nat) (w : World) (h : HG w p g c a) :
    Calls Try.prog 90 #[.pointer (some ⟨p, 0, none⟩)] w fun e w' => e = .returned (.int .i64 a.length) ∧ w = w' := by
  have c0 := h.c0
  go_enter Try.func90, Try.ntmps90
  go_wp2
  go_ret
  exact ⟨rfl, rfl⟩

set_option maxRecDepth 100000 in
set_option maxHeartbeats 400000 in
theorem heapLess_any (p g c i j : Nat) (a : List Nat) (w : World) (h : HG w p g c a) (hi : i < a.length) (hj : j < a.length) :
    Calls Try.prog 127 #[.pointer (some ⟨p, 0, none⟩), .int .i64 i, .int .i64 j] w fun e w' => e = .returned (.bool (decide (a.getD i 0 < a.getD j 0))) ∧ ∃ n, w' = w.drewN n := by
  have c0 := h.c0
  have ci := h.at_ hi
  have cj := h.at_ hj
  have hi0 : (0 : Int) ≤ (i : Int) := by omega
  have hi1 : (i : Int) < (a.length : Int) := by omega
  have hj0 : (0 : Int) ≤ (j : Int) := by omega
  have hj1 : (j : Int) < (a.length : Int) := by omega
  generalize a.getD i 0 = x at *
  generalize a.getD j 0 = y at *
  clear h
  go_enter Try.func127, Try.ntmps127
  go_wp2
  go_quiet (fail)
  go_wp2
  go_ret
  exact ⟨rfl, _, rfl⟩

set_option maxRecDepth 100000 in
set_option maxHeartbeats 400000 in
theorem heapSwap_ne (p g c i j : Nat) (a : List Nat) (w : World) (h : HG w p g c a) (hi : i < a.length) (hj : j < a.length) (hij : i ≠ j) :
    Calls Try.prog 130 #[.pointer (some ⟨p, 0, none⟩), .int .i64 i, .int .i64 j] w fun e w' => e = .returned (.tuple #[]) ∧ HG w' p g c (swp a i j) ∧ Two p g w w' := by
  have c0 := h.c0
  have f0 := h.f0
  have ci := h.at_ hi
  have cj := h.at_ hj
  have fi := h.fz i
  have fj := h.fz j
  have hi0 : (0 : Int) ≤ (i : Int) := by omega
  have hi1 : (i : Int) < (a.length : Int) := by omega
  have hj0 : (0 : Int) ≤ (j : Int) := by omega
  have hj1 : (j : Int) < (a.length : Int) := by omega
  have HH := Lib.hid h
  have HS : Hid (swp a i j = (a.set i (a.getD j 0)).set j (a.getD i 0)) := Lib.hid rfl
  clear h
  generalize a.getD i 0 = x at *
  generalize a.getD j 0 = y at *
  go_enter Try.func130, Try.ntmps130
  go_region
  go_end0
  refine ⟨rfl, ?_, (((Two.refl p g w).setG i _).setG j _).drew 1⟩
  rw [HS.out]
  have := ((HH.out.stored i y).stored j x).drew 1
  exact this

set_option maxRecDepth 100000 in
set_option maxHeartbeats 400000 in
theorem heapSwap_same (p g c i : Nat) (a : List Nat) (w : World) (h : HG w p g c a) (hi : i < a.length) :
    Calls Try.prog 130 #[.pointer (some ⟨p, 0, none⟩), .int .i64 i, .int .i64 i] w fun e w' => e = .returned (.tuple #[]) ∧ HG w' p g c (swp a i i) ∧ Two p g w w' := by
  have c0 := h.c0
  have f0 := h.f0
  have ci := h.at_ hi
  have fi := h.fz i
  have hi0 : (0 : Int) ≤ (i : Int) := by omega
  have hi1 : (i : Int) < (a.length : Int) := by omega
  have HH := Lib.hid h
  have HS : Hid (swp a i i = (a.set i (a.getD i 0)).set i (a.getD i 0)) := Lib.hid rfl
  clear h
  generalize a.getD i 0 = x at *
  go_enter Try.func130, Try.ntmps130
  go_region
  go_end0
  refine ⟨rfl, ?_, (((Two.refl p g w).setG i _).setG i _).drew 1⟩
  rw [HS.out]
  have := ((HH.out.stored i x).stored i x).drew 1
  exact this
theorem heapSwap_any (p g c i j : Nat) (a : List Nat) (w : World) (h : HG w p g c a) (hi : i < a.length) (hj : j < a.length) :
    Calls Try.prog 130 #[.pointer (some ⟨p, 0, none⟩), .int .i64 i, .int .i64 j] w fun e w' => e = .returned (.tuple #[]) ∧ HG w' p g c (swp a i j) ∧ Two p g w w' := by
  by_cases hij : i = j
  · subst hij; exact heapSwap_same p g c i a w h hi
  · exact heapSwap_ne p g c i j a w h hi hj hij

theorem take_ubs (a : List Nat) (n : Nat) : (ubs a).take n = ubs (a.take n) := by simp [ubs, List.map_take]
theorem HG.cut {w : World} {p g c : Nat} {a : List Nat} (h : HG w p g c a) {n : Nat} (hn : n ≤ a.length) : HG (w.setCell ⟨p, 0, none⟩ (.slice (some ⟨g, 0, none⟩) n c)) p g c (a.take n) := by
  have hne := h.ne
  have hl : (a.take n).length = n := by simp; omega
  refine ⟨?_, ?_⟩
  · rw [hl]
    exact heap_setCell_same w p 0 _ _ _ h.1
  · rw [hl, ← take_ubs]
    have h2 : (w.setCell ⟨p, 0, none⟩ (.slice (some ⟨g, 0, none⟩) n c)).ownsRow 0 59 1 (.slice (some ⟨g, 0, none⟩) a.length c) a.length (ubs a) :=
      own_at h.2 fun k hk => by cases hk; exact Below.heap_setCell w ⟨p, 0, none⟩ _ g (fun e => hne e.symm)
    refine ⟨by simp [ubs]; omega, .inr ?_⟩
    rcases h2.2 with ⟨h0, _⟩ | ⟨g', cap, cur, hv, h3, h4, h5, h6, h7, h8⟩
    · cases h0
    · injection hv with hv1 _ hv2
      injection hv1 with hv1
      injection hv1 with hv1
      subst hv1 hv2
      refine ⟨g, c, cur, rfl, h3, h4, by omega, h6, h7, ?_⟩
      rw [← h8, List.take_take]
      congr 1
      omega

set_option maxRecDepth 100000 in
set_option maxHeartbeats 400000 in
theorem heapPop_any (p g c n : Nat) (a : List Nat) (w : World) (h : HG w p g c a) (hl : a.length ≤ 1048576) (hn : a.length = n + 1) :
    Calls Try.prog 128 #[.pointer (some ⟨p, 0, none⟩)] w fun e w' => e = .returned (.iface 59 (.int .u8 ((a.getD n 0 : Nat) : Int))) ∧ HG w' p g c (a.take n) ∧ Two p g w w' := by
  have c0 := h.c0
  have f0 := h.f0
  have cn := h.at_ (i := n) (by omega)
  have hcap : a.length ≤ c := by
    rcases h.2.2 with ⟨h0, _⟩ | ⟨g', cap, cur, hv, h3, h4, h5, _⟩
    · cases h0
    · injection hv with _ _ hv2; omega
  have HC := Lib.hid (h.cut (n := n) (by omega))
  have HN := Lib.hid hn
  rw [hn] at c0 hcap
  generalize a.getD n 0 = x at *
  have hn1 : ((n : Int) + 1 - 1) = (n : Int) := by omega
  have hnb : n ≤ 1048576 := by omega
  clear h hn hl
  have hn0 : (0 : Int) ≤ (n : Int) := by omega
  have hnc : (n : Int) ≤ (c : Int) := by omega
  go_enter Try.func128, Try.ntmps128
  go_wp2
  go_ret
  exact ⟨rfl, HC.out, (Two.refl p g w).setP 0 _⟩
end Go.Proofs.Ytgbijndfpbcjeaa
