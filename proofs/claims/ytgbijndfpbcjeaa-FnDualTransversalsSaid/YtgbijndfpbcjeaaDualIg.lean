/- The program's dual by its contract. -/
import Derived.Test.YtgbijndfpbcjeaaFmtg
import Derived.Test.YtgbijndfpbcjeaaDualSg
import Derived.Deep.RegionLaw
import Derived.Deep.RegionHeld3
import Derived.Deep.AppendLies
namespace Go.Proofs.Ytgbijndfpbcjeaa
open Go.RowKit

/-- What the dual of a tree leaves: a tree in old blocks below B and in new ones. -/
def ResD (w : World) (B : Nat) (x : Ex) (e : Ending) (w' : World) : Prop :=
  (∃ t a, e = .returned (.iface t (.pointer (some a))) ∧ Tr w' (fun b => b < B ∨ w.heap.size ≤ b) (dual x) (.iface t (.pointer (some a)))) ∧ Below w.heap.size w w'
/-- The dual's node at block d with its row of operands. -/
def Nd (w : World) (d : Nat) (K : Int) (v : Value) : Prop := w.heap[d]? = some (.cells #[.int .i64 K, v] 111 (0, 0))
theorem keepC {wr w2 : World} {d : Nat} {v : Value} (b2 : Below wr.heap.size wr w2) (hd : d < wr.heap.size) (c1 : wr.cell? ⟨d, 1, none⟩ = some v) (f1 : wr.frozen? ⟨d, 1, none⟩ = false) : w2.cell? ⟨d, 1, none⟩ = some v ∧ w2.frozen? ⟨d, 1, none⟩ = false :=
  ⟨(World.cell?_of_block (a := ⟨d, 1, none⟩) (b2.block d hd)).trans c1, (World.frozen?_of_block (a := ⟨d, 1, none⟩) (b2.block d hd)).trans f1⟩
theorem keepG {W2 w3 : World} {d : Nat} {v : Value} {row : Option Nat} (hg : W2.grownBy w3 row) (hd : d < W2.heap.size) (hr : some d ≠ row) (h : W2.cell? ⟨d, 1, none⟩ = some v ∧ W2.frozen? ⟨d, 1, none⟩ = false) : w3.cell? ⟨d, 1, none⟩ = some v ∧ w3.frozen? ⟨d, 1, none⟩ = false :=
  ⟨(World.cell?_of_block (a := ⟨d, 1, none⟩) (hg.block d hd hr)).trans h.1, (World.frozen?_of_block (a := ⟨d, 1, none⟩) (hg.block d hd hr)).trans h.2⟩
theorem keepA {w2 : World} {d : Nat} {v : Value} (h : w2.cell? ⟨d, 1, none⟩ = some v ∧ w2.frozen? ⟨d, 1, none⟩ = false) (hd : d < w2.heap.size) (o : Obj) : (w2.alloc o).cell? ⟨d, 1, none⟩ = some v ∧ (w2.alloc o).frozen? ⟨d, 1, none⟩ = false :=
  keepG (World.grownBy_alloc w2 o none) hd (by simp) h
theorem keepB {w2 : World} {d : Nat} {v : Value} (h : w2.cell? ⟨d, 1, none⟩ = some v ∧ w2.frozen? ⟨d, 1, none⟩ = false) (hd : d < w2.heap.size) (o : Obj) : (w2.alloc o).drew.cell? ⟨d, 1, none⟩ = some v ∧ (w2.alloc o).drew.frozen? ⟨d, 1, none⟩ = false := keepA h hd o
/-- What the cell of the row holds. -/
def val (d : Nat) (w : World) : Value := (w.cell? ⟨d, 1, none⟩).getD undef
theorem val_of {w : World} {d : Nat} {v : Value} (h : w.cell? ⟨d, 1, none⟩ = some v) : val d w = v := by simp [val, h]
theorem keepS {w : World} {d : Nat} {v : Value} (h : w.cell? ⟨d, 1, none⟩ = some v ∧ w.frozen? ⟨d, 1, none⟩ = false) : w.cell? ⟨d, 1, none⟩ = some (val d w) ∧ w.frozen? ⟨d, 1, none⟩ = false := ⟨by rw [val_of h.1]; exact h.1, h.2⟩
theorem keepT {w : World} {d : Nat} {v : Value} (h : w.cell? ⟨d, 1, none⟩ = some v ∧ w.frozen? ⟨d, 1, none⟩ = false) (u : Value) : (w.setCell ⟨d, 1, none⟩ u).cell? ⟨d, 1, none⟩ = some (val d (w.setCell ⟨d, 1, none⟩ u)) ∧ (w.setCell ⟨d, 1, none⟩ u).frozen? ⟨d, 1, none⟩ = false :=
  keepS ⟨World.cell?_setCell_same' _ _ _ (by rw [h.1]; rfl), by simp [h.2]⟩
theorem own_bel {w w' : World} {base : Nat} {e : TypeId} {v : Value} {n : Nat} {xs : List Value} (h : w.ownsRow base e 1 v n xs) (hb : Below w.heap.size w w') : w'.ownsRow base e 1 v n xs :=
  h.kept (row := none) ⟨hb.os, hb.tape, hb.output, hb.size, fun i hi _ => hb.block i hi⟩ (Classical.em _)
theorem alloc_lt {w : World} {d : Nat} (h : d < w.heap.size) (o : Obj) : d < (w.alloc o).heap.size := by simp; omega
theorem alloc_size (w : World) (o : Obj) : (w.alloc o).heap.size = w.heap.size + 1 := by simp
/-- What lies between two rounds. -/
def Dl (w : World) (B : Nat) (K : Int) (es : List Ex) (j : Nat) (v : Value) (vs : List Value) (wr : World) : Prop :=
  Nd wr w.heap.size K v ∧ wr.ownsRow (w.heap.size + 1) 69 1 v j vs ∧ TrL wr (fun b => (b < B ∨ w.heap.size < b) ∧ some b ≠ v.ownBlock) ((dualL es).take j) vs ∧ Below w.heap.size w wr
theorem dual_app {w wr w2 W2 w3 : World} {B j g cap : Nat} {K : Int} {v u : Value} {es : List Ex} {vs : List Value} {y : Ex} (hB : B ≤ w.heap.size) (hD : Dl w B K es j v vs wr) (hy : es[j]? = some y) (b2 : Below wr.heap.size wr w2)
    (ht : Tr w2 (fun b => b < B ∨ wr.heap.size ≤ b) (dual y) u) (hW : Below w2.heap.size w2 W2) (hs : W2.heap.size = w2.heap.size + 1)
    (hown3 : w3.ownsRow (w.heap.size + 1) 69 1 (.slice (some ⟨g, 0, none⟩) (j + 1) cap) (j + 1) (vs ++ [u])) (hgrow : W2.grownBy w3 v.ownBlock) (hat : v.ownBlock = some g ∨ g = w2.heap.size + 1) :
    Dl w B K es (j + 1) (.slice (some ⟨g, 0, none⟩) (j + 1) cap) (vs ++ [u]) (w3.setCell ⟨w.heap.size, 1, none⟩ (.slice (some ⟨g, 0, none⟩) (j + 1) cap)) := by
  obtain ⟨hN, hown, hT, hbel⟩ := hD
  have hd : w.heap.size < wr.heap.size := (Array.getElem?_eq_some_iff.1 hN).1
  have hrow := hown.lt
  have s2 := b2.size
  have s3 := hgrow.size
  have hdr : some w.heap.size ≠ v.ownBlock := fun e => by have := (hrow _ e.symm).1; omega
  have chain : ∀ b, b < wr.heap.size → some b ≠ v.ownBlock → w3.heap[b]? = wr.heap[b]? := fun b hb hne =>
    (hgrow.block b (by omega) hne).trans ((hW.block b (by omega)).trans (b2.block b hb))
  have hN3 : Nd w3 w.heap.size K v := (chain _ hd hdr).trans hN
  have hset : ∀ b, b ≠ w.heap.size → (w3.setCell ⟨w.heap.size, 1, none⟩ (.slice (some ⟨g, 0, none⟩) (j + 1) cap)).heap[b]? = w3.heap[b]? := fun b hb => Below.heap_setCell w3 ⟨w.heap.size, 1, none⟩ _ b (by simpa using hb)
  have hsz : (w3.setCell ⟨w.heap.size, 1, none⟩ (.slice (some ⟨g, 0, none⟩) (j + 1) cap)).heap.size = w3.heap.size := by simp [World.setCell]
  have hng : ∀ b, b < w2.heap.size → some b ≠ v.ownBlock → some b ≠ (Value.slice (some ⟨g, 0, none⟩) (j + 1) cap).ownBlock := by
    intro b hb hne e
    simp only [Value.ownBlock] at e
    rcases hat with h | h
    · rw [h] at hne; exact hne e
    · injection e with e; omega
  refine ⟨heap_setCell_same w3 w.heap.size 1 _ _ _ hN3, ownsRow_setCell_below hown3 (by dsimp only; omega) _, ?_, ?_⟩
  · rw [List.take_add_one, dualL_at es j y hy]
    refine TrL.app ?_ _ _ ?_
    · refine Tr.keep (by rw [hsz]; omega) (fun b hb hlt => ?_) _ _ ht
      have hne : some b ≠ v.ownBlock := fun e => by have := hrow b e.symm; rcases hb with h | h <;> omega
      have hnd : b ≠ w.heap.size := by rcases hb with h | h <;> omega
      refine ⟨⟨by rcases hb with h | h <;> omega, hng b hlt hne⟩, ?_⟩
      rw [hset b hnd]
      exact (hgrow.block b (by omega) hne).trans (hW.block b hlt)
    · refine TrL.keep (by rw [hsz]; omega) (fun b hb hlt => ?_) _ _ hT
      have hnd : b ≠ w.heap.size := by rcases hb.1 with h | h <;> omega
      refine ⟨⟨hb.1, hng b (by omega) hb.2⟩, ?_⟩
      rw [hset b hnd]
      exact chain b hlt hb.2
  · have b4 : Below w.heap.size w w3 := ((hbel.trans (b2.mono (by omega))).trans (hW.mono (by omega))).grown hgrow (by omega) (fun k hk => by have := (hrow k hk).1; omega)
    exact b4.setCell (p := ⟨w.heap.size, 1, none⟩) (Nat.le_refl _) _

set_option maxRecDepth 100000 in
set_option maxHeartbeats 3200000 in
theorem dualOf_any (n : Nat) : ∀ (x : Ex) (v : Value) (B : Nat) (w : World), (tx x).length ≤ n → wf x → B ≤ w.heap.size → Tr w (fun b => b < B) x v →
    Calls Try.prog 65 #[v] w (ResD w B x) := by
  induction n with
  | zero => intro x v B w h; have := tx_pos x; omega
  | succ n ih =>
    intro x v B w hn hw hB ht
    cases x with
    | mem m =>
      have HT := Lib.hid (show Tr w (fun b => b < B ∨ w.heap.size ≤ b) (dual (.mem m)) v from Tr.keep (Nat.le_refl _) (fun b hb _ => ⟨.inl hb, rfl⟩) _ _ (by simpa [dual] using ht))
      simp only [Tr] at ht
      obtain ⟨b, rfl, _, hb⟩ := ht
      have a1 := as_thr_no
      clear ih hb hn hw
      go_enter Try.func65, Try.ntmps65
      go_wp2_with fail
      go_ret
      exact ⟨⟨_, _, rfl, HT.out⟩, Below.refl _ _⟩
    | thr k es =>
      simp only [Tr] at ht
      obtain ⟨b, A, c, vs, rfl, hbB, hb, hV, hT⟩ := ht
      have hat : ∀ (j : Nat) (y : Ex), es[j]? = some y → wf y ∧ (tx y).length ≤ n := fun j y h => by
        have h1 := tx_at (k := k) h
        exact ⟨wf_at hw h, by omega⟩
      simp only [wf] at hw
      have c0 : w.cell? ⟨b, 0, none⟩ = some (.int .i64 k) := by rw [cell_of_row w b 0 _ _ (0, 0) hb]; rfl
      have c1 : w.cell? ⟨b, 1, none⟩ = some (.slice A es.length c) := by rw [cell_of_row w b 1 _ _ (0, 0) hb]; rfl
      have a1 := as_thr_yes
      have HA := Lib.hid hat
      have h6 := hw.2.2.1
      have hk1 := hw.1
      have hk2 := hw.2.1
      have HV := Lib.hid hV
      have HT := Lib.hid hT
      have lb := World.block_lt_of_cell? w _ c0
      have e1 : IntKind.i64.wrap ((es.length : Int) - (k : Int)) = (es.length : Int) - (k : Int) := IntWalk.i64_in _ (by omega)
      have e2 : IntKind.i64.wrap ((es.length : Int) - (k : Int) + 1) = (es.length : Int) - (k : Int) + 1 := IntWalk.i64_in _ (by omega)
      clear hb hat hw hV hT
      go_enter Try.func65, Try.ntmps65
      go_wp2_with fail
      go_region_held3 (fun w' => w'.cell? ⟨b, 0, none⟩ = some (.int .i64 k) ∧ w'.cell? ⟨b, 1, none⟩ = some (.slice A es.length c)) (go_keep) (fail)
      go_wp2_with fail
      obtain ⟨i0, hi0, hz0, hz1, hz2⟩ := info_parts node_info
      go_loopw [31] (fun i wr => ∃ (j : Nat) (v : Value) (vs' : List Value), j ≤ es.length ∧ i = .int .i64 j ∧ Dl w B ((es.length : Int) - (k : Int) + 1) es j v vs' wr) (fun i _ => es.length - (intOf i).toNat)
      case atStart => exact ⟨0, _, [], Nat.zero_le _, rfl, heap_alloc_new w _, World.ownsRow_nil _ _ _ _, by simp only [List.take_zero, TrL], ((Below.refl _ _).alloc (Nat.le_refl _) _).drew⟩
      case round =>
        obtain ⟨j, v, vs', hj, rfl, hD⟩ := hrel
        by_cases hlt : j < es.length
        · have hbel := hD.2.2.2
          obtain ⟨y, u, g, off, hy, rfl, hc, ht⟩ := op_at (HV.out.below hbel) (HT.out.below hbel) hlt
          obtain ⟨hwy, hyn⟩ := HA.out j y hy
          have hd : w.heap.size < wr.heap.size := (Array.getElem?_eq_some_iff.1 hD.1).1
          have c1d : wr.cell? ⟨w.heap.size, 1, none⟩ = some v := by rw [cell_of_row wr w.heap.size 1 _ _ (0, 0) hD.1]; rfl
          have f1d : wr.frozen? ⟨w.heap.size, 1, none⟩ = false := frozen_of_row wr w.heap.size 1 _ _ hD.1
          have HI := Lib.hid (fun (W : World) (hb : Below wr.heap.size wr W) => ih y u B W hyn hwy (by have := hb.size; omega) (ht.below hb))
          have hdw : Below wr.heap.size wr wr.drew := (Below.refl _ _).drew
          have hbr : Below wr.heap.size wr wr := Below.refl _ _
          have HD := Lib.hid hD
          have HY := Lib.hid hy
          have hown := hD.2.1
          have hdr : some w.heap.size ≠ v.ownBlock := fun e => by have := (hown.lt _ e.symm).1; omega
          clear hy hwy hyn ih ht HA hD
          have h63 : j + 1 ≤ maxLen := by unfold maxLen; omega
          have hby : (j + 1) * 16 ≤ 140737488355328 := by omega
          go_wp2_with fail
          go_region_law (first
              | (refine step_append_lies _ (by rfl) _ _ _ (by rfl) (w.heap.size + 1) 69 i0 _ 1 16 Try.underlying109 hi0 hz0 hz1 hz2 rfl (by omega) v j vs' (by rfl) (own2.alloc _) ⟨w2.heap.size, 0, none⟩ 1 1 [.iface t (.pointer (some a))] (by rfl) (by rfl) (World.news_of_block (cs := #[.iface t (.pointer (some a))]) (t := 69) (fr := (0, 0)) (heap_alloc_new w2 _)) (by simp [Value.oneCell']) (by omega) h63 hby (by simp; omega) (w2.heap.size + 1) (by simp) ?_; intro g3 cap3 w3 hown3 hgrow hat hlt3; have hS4 := keepG hgrow (alloc_lt hd2 _) hdr ⟨hS3a, hS3b⟩; obtain ⟨hS4a, hS4b⟩ := hS4)
              | (go_simp; go_at_call 65; refine (HI.out _ hdw).mono ?_; rintro e w2 ⟨⟨t, a, rfl, htd⟩, b2⟩; have b2w := below_step hdw b2; have own2 := own_bel hown b2w; have hs2 := b2w.size; have hS2 := keepC b2w hd c1d f1d; have hd2 := Nat.lt_of_lt_of_le hd hs2; have hS3 := keepA hS2 hd2 (.cells #[.iface t (.pointer (some a))] 69); obtain ⟨hS3a, hS3b⟩ := hS3; obtain ⟨hS2a, hS2b⟩ := hS2)
              | fail)
          all_goals have R := Lib.hid (dual_app hB HD.out HY.out b2w htd ((Below.refl _ _).alloc (Nat.le_refl _) _) (alloc_size _ _) hown3 hgrow hat)
          all_goals clear hown3 hgrow hat own2 b2w b2 htd hS2a hS2b hS3a hS3b hS4a hS4b HD HI hown c1d f1d hdr hc
          all_goals go_wp2_with fail
          all_goals (go_roundw; (case rel => exact ⟨j + 1, _, _, by omega, by go_num, R.out⟩); (case measure => simp [intOf]; omega))
        · have hjl : j = es.length := by omega
          subst hjl
          obtain ⟨hN, hown, hTd, hbel⟩ := hD
          obtain ⟨AD, cD, rfl⟩ := own_slice hown
          have HE := Lib.hid (show Tr wr (fun b => b < B ∨ w.heap.size ≤ b) (dual (.thr k es)) (.iface 108 (.pointer (some ⟨w.heap.size, 0, none⟩))) by
            simp only [dual, Tr]
            refine ⟨_, AD, cD, vs', rfl, .inr (Nat.le_refl _), ?_, VL.of_own hown (fun b hb => .inr (by omega)), ?_⟩
            · rw [dualL_len, show ((es.length - k + 1 : Nat) : Int) = (es.length : Int) - (k : Int) + 1 by omega]
              exact hN
            · rw [show es.length = (dualL es).length by rw [dualL_len], List.take_length] at hTd
              exact TrL.keep (Nat.le_refl _) (fun b hb _ => ⟨by rcases hb.1 with h | h; exact .inl h; exact .inr (by omega), rfl⟩) _ _ hTd)
          clear hN hown hTd ih HA HV HT
          go_wp2_with fail
          go_ret
          exact ⟨⟨_, _, rfl, HE.out⟩, hbel⟩
end Go.Proofs.Ytgbijndfpbcjeaa
