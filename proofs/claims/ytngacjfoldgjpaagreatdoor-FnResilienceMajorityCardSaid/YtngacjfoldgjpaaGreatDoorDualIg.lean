/- The program's dual by its contract. -/
import Derived.Test.YtngacjfoldgjpaaGreatDoorFmtg
import Derived.Test.YtngacjfoldgjpaaGreatDoorDualSg
import Derived.Deep.RegionLaw
import Derived.Deep.RegionHeld3
import Derived.Deep.AppendLies
namespace Go.Proofs.YtngacjfoldgjpaaGreatDoor
open Go.RowKit

/-- What the dual of a tree leaves: a tree in old blocks below B and in new ones. -/
def ResD (w : World) (B : Nat) (x : Ex) (e : Ending) (w' : World) : Prop :=
  (∃ t a, e = .returned (.iface t (.pointer (some a))) ∧ Tr w' (fun b => b < B ∨ w.heap.size ≤ b) (dual x) (.iface t (.pointer (some a)))) ∧ Below w.heap.size w w'
/-- The dual's node at block d with its row of operands. -/
def Nd (w : World) (d : Nat) (K : Int) (v : Value) : Prop := w.heap[d]? = some (.cells #[.int .i64 K, v] 58 (0, 0))
theorem keepC {wr w2 : World} {d : Nat} {v : Value} (b2 : Below wr.heap.size wr w2) (hd : d < wr.heap.size) (c1 : wr.cell? ⟨d, 1, none⟩ = some v) (f1 : wr.frozen? ⟨d, 1, none⟩ = false) : w2.cell? ⟨d, 1, none⟩ = some v ∧ w2.frozen? ⟨d, 1, none⟩ = false :=
  ⟨(World.cell?_of_block (a := ⟨d, 1, none⟩) (b2.block d hd)).trans c1, (World.frozen?_of_block (a := ⟨d, 1, none⟩) (b2.block d hd)).trans f1⟩
theorem keepG {W2 w3 : World} {d : Nat} {v : Value} {row : Option Nat} (hg : W2.grownBy w3 row) (hd : d < W2.heap.size) (hr : some d ≠ row) (h : W2.cell? ⟨d, 1, none⟩ = some v ∧ W2.frozen? ⟨d, 1, none⟩ = false) : w3.cell? ⟨d, 1, none⟩ = some v ∧ w3.frozen? ⟨d, 1, none⟩ = false :=
  ⟨(World.cell?_of_block (a := ⟨d, 1, none⟩) (hg.block d hd hr)).trans h.1, (World.frozen?_of_block (a := ⟨d, 1, none⟩) (hg.block d hd hr)).trans h.2⟩
theorem keepA {w2 : World} {d : Nat} {v : Value} (h : w2.cell? ⟨d, 1, none⟩ = some v ∧ w2.frozen? ⟨d, 1, none⟩ = false) (hd : d < w2.heap.size) (o : Obj) : (w2.alloc o).cell? ⟨d, 1, none⟩ = some v ∧ (w2.alloc o).frozen? ⟨d, 1, none⟩ = false :=
  keepG (World.grownBy_alloc w2 o none) hd (by simp) h
theorem keepB {w2 : World} {d : Nat} {v : Value} (h : w2.cell? ⟨d, 1, none⟩ = some v ∧ w2.frozen? ⟨d, 1, none⟩ = false) (hd : d < w2.heap.size) (o : Obj) : (w2.alloc o).drew.cell? ⟨d, 1, none⟩ = some v ∧ (w2.alloc o).drew.frozen? ⟨d, 1, none⟩ = false := keepA h hd o
/-- What the cell of the row holds. -/
def val (d : Nat) (w : World) : Value := (w.cell? ⟨d, 1, none⟩).getD undef
theorem val_of {w : World} {d : Nat} {v : Value} (h : w.cell? ⟨d, 1, none⟩ = some v) : val d w = v := by simp [val, h]
theorem keepS {w : World} {d : Nat} {v : Value} (h : w.cell? ⟨d, 1, none⟩ = some v ∧ w.frozen? ⟨d, 1, none⟩ = false) : w.cell? ⟨d, 1, none⟩ = some (val d w) ∧ w.frozen? ⟨d, 1, none⟩ = false := ⟨by rw [val_of h.1]; exact h.1, h.2⟩
theorem keepT {w : World} {d : Nat} {v : Value} (h : w.cell? ⟨d, 1, none⟩ = some v ∧ w.frozen? ⟨d, 1, none⟩ = false) (u : Value) : (w.setCell ⟨d, 1, none⟩ u).cell? ⟨d, 1, none⟩ = some (val d (w.setCell ⟨d, 1, none⟩ u)) ∧ (w.setCell ⟨d, 1, none⟩ u).frozen? ⟨d, 1, none⟩ = false :=
  keepS ⟨World.cell?_setCell_same' _ _ _ (by rw [h.1]; rfl), by simp [h.2]⟩
theorem own_bel {w w' : World} {base : Nat} {e : TypeId} {v : Value} {n : Nat} {xs : List Value} (h : w.ownsRow base e 1 v n xs) (hb : Below w.heap.size w w') : w'.ownsRow base e 1 v n xs :=
  h.kept (row := none) ⟨hb.os, hb.tape, hb.output, hb.size, fun i hi _ => hb.block i hi⟩ (Classical.em _)
theorem alloc_lt {w : World} {d : Nat} (h : d < w.heap.size) (o : Obj) : d < (w.alloc o).heap.size := by simp; omega
theorem alloc_size (w : World) (o : Obj) : (w.alloc o).heap.size = w.heap.size + 1 := by simp
/-- What lies between two rounds. -/
def Dl (w : World) (B : Nat) (K : Int) (es : List Ex) (j : Nat) (v : Value) (vs : List Value) (wr : World) : Prop :=
  Nd wr w.heap.size K v ∧ wr.ownsRow (w.heap.size + 1) 66 1 v j vs ∧ TrL wr (fun b => (b < B ∨ w.heap.size < b) ∧ some b ≠ v.ownBlock) ((dualL es).take j) vs ∧ Below w.heap.size w wr
theorem dual_app {w wr w2 W2 w3 : World} {B j g cap : Nat} {K : Int} {v u : Value} {es : List Ex} {vs : List Value} {y : Ex} (hB : B ≤ w.heap.size) (hD : Dl w B K es j v vs wr) (hy : es[j]? = some y) (b2 : Below wr.heap.size wr w2)
    (ht : Tr w2 (fun b => b < B ∨ wr.heap.size ≤ b) (dual y) u) (hW : Below w2.heap.size w2 W2) (hs : W2.heap.size = w2.heap.size + 1)
    (hown3 : w3.ownsRow (w.heap.size + 1) 66 1 (.slice (some ⟨g, 0, none⟩) (j + 1) cap) (j + 1) (vs ++ [u])) (hgrow : W2.grownBy w3 v.ownBlock) (hat : v.ownBlock = some g ∨ g = w2.heap.size + 1) :
    Dl w B K es (j + 1) (.slice (some ⟨g, 0, none⟩) (j + 1) cap) (vs ++ [u]) (w3.setCell ⟨w.heap.size, 1, none⟩ (.slice (some ⟨g, 0, none⟩) (j + 1) cap)) := by
  obtain ⟨hN, hown, hT, hbel⟩ := hD
  have hd : w.heap.size < wr.heap.size := (Array.getElem?_eq_some_iff.1 hN).1
  have hrow := hown.lt
  have s2 := b2.size
  have s3 := hgrow.size
  have hdr : some w.heap.size ≠ v.ownBlock := fun e => by have := (hrow _ e.symm).1; omega
  have chain : ∀ b, b < wr.heap.size → some b ≠ v.ownBlock → w3.heap[b]? = wr.heap[b]? := fun b hb hne =>
    (hgrow.block b (by omega) hne).trans ((hW.block b (by omega)).trans (b2.block b hb))
  have hN3 : Nd w3 w.heap.size K v := (chain _ hd hdr).trans hN
  have hset : ∀ b, b ≠ w.heap.size → (w3.setCell ⟨w.heap.size, 1, none⟩ (.slice (some ⟨g, 0, none⟩) (j + 1) cap)).heap[b]? = w3.heap[b]? := fun b hb => Below.heap_setCell w3 ⟨w.heap.size, 1, none⟩ _ b (by simpa using hb)
  have hsz : (w3.setCell ⟨w.heap.size, 1, none⟩ (.slice (some ⟨g, 0, none⟩) (j + 1) cap)).heap.size = w3.heap.size := by simp [World.setCell]
  have hng : ∀ b, b < w2.heap.size → some b ≠ v.ownBlock → some b ≠ (Value.slice (some ⟨g, 0, none⟩) (j + 1) cap).ownBlock := by
    intro b hb hne e
    simp only [Value.ownBlock] at e
    rcases hat with h | h
    · rw [h] at hne; exact hne e
    · injection e with e; omega
  refine ⟨heap_setCell_same w3 w.heap.size 1 _ _ _ hN3, ownsRow_setCell_below hown3 (by dsimp only; omega) _, ?_, ?_⟩
  · rw [List.take_add_one, dualL_at es j y hy]
    refine TrL.app ?_ _ _ ?_
    · refine Tr.keep (by rw [hsz]; omega) (fun b hb hlt => ?_) _ _ ht
      have hne : some b ≠ v.ownBlock := fun e => by have := hrow b e.symm; rcases hb with h | h <;> omega
      have hnd : b ≠ w.heap.size := by rcases hb with h | h <;> omega
      refine ⟨⟨by rcases hb with h | h <;> omega, hng b hlt hne⟩, ?_⟩
      rw [hset b hnd]
      exact (hgrow.block b (by omega) hne).trans (hW.block b hlt)
    · refine TrL.keep (by rw [hsz]; omega) (fun b hb hlt => ?_) _ _ hT
      have hnd : b ≠ w.heap.size := by rcases hb.1 with h | h <;> omega
      refine ⟨⟨hb.1, hng b (by omega) hb.2⟩, ?_⟩
      rw [hset b hnd]
      exact chain b hlt hb.2
  · have b4 : Below w.heap.size w w3 := ((hbel.trans (b2.mono (by omega))).trans (hW.mono (by omega))).grown hgrow (by omega) (fun k hk => by have := (hrow k hk).1; omega)
    exact b4.setCell (p := ⟨w.heap.size, 1, none⟩) (Nat.le_refl _) _

end Go.Proofs.YtngacjfoldgjpaaGreatDoor
