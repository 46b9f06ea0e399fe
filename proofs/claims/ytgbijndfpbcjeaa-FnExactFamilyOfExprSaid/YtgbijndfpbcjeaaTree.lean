/- The program's reader of expressions: its digits and marks by their contracts; trees in memory. -/
import Derived.Test.YtgbijndfpbcjeaaEnd
import Derived.Test.YtgbijndfpbcjeaaDraw
import Derived.Maps.AppendAt
namespace Go.Proofs.Ytgbijndfpbcjeaa
open Go.RowKit

/-- A reader of the text T at block p stands at place k. -/
def PS (w : World) (p : Nat) (T : ByteArray) (k : Nat) : Prop := w.heap[p]? = some (.cells #[.string T, .int .i64 k] 103 (0, 0))
theorem PS.lt {w : World} {p k : Nat} {T : ByteArray} (h : PS w p T k) : p < w.heap.size := (Array.getElem?_eq_some_iff.1 h).1
theorem PS.count {w : World} {p k : Nat} {T : ByteArray} (h : PS w p T k) :
    PS (w.setCell ⟨p, 1, none⟩ (.int .i64 ((k : Int) + 1))) p T (k + 1) ∧ w.grownBy (w.setCell ⟨p, 1, none⟩ (.int .i64 ((k : Int) + 1))) (some p) :=
  ⟨heap_setCell_same w p 1 _ _ _ h, ⟨rfl, rfl, rfl, by simp [World.setCell], fun i _ hne => Below.heap_setCell w ⟨p, 1, none⟩ _ i (by rintro rfl; exact hne rfl)⟩⟩
theorem PS.drew {w : World} {p k : Nat} {T : ByteArray} (h : PS w p T k) (n : Nat) : PS (w.drewN n) p T k := h
theorem PS.grown {w w' : World} {p k : Nat} {T : ByteArray} {row : Option Nat} (h : PS w p T k) (hg : w.grownBy w' row) (hr : row ≠ some p) : PS w' p T k := (hg.block p h.lt (fun e => hr e.symm)).trans h

theorem PS.countN {w : World} {p k : Nat} {T : ByteArray} (h : PS w p T k) (n : Nat) :
    PS ((w.drewN n).setCell ⟨p, 1, none⟩ (.int .i64 ((k : Int) + 1))) p T (k + 1) ∧ w.grownBy ((w.drewN n).setCell ⟨p, 1, none⟩ (.int .i64 ((k : Int) + 1))) (some p) :=
  ⟨(h.drew n).count.1, grown_trans (only_drew (World.grownBy.refl w (some p)) n) (h.drew n).count.2⟩
theorem drewN_drewN (w : World) (a b : Nat) : ∃ c, (w.drewN a).drewN b = w.drewN c := ⟨_, World.drewN_drewN w a b⟩

set_option maxRecDepth 100000 in
set_option maxHeartbeats 1600000 in
theorem digit_yes (p k : Nat) (T : ByteArray) (b : UInt8) (w : World) (h : PS w p T k) (hb : T.data.toList[k]? = some b) (hD : isD b = true) (hN : T.size ≤ 1000) :
    Calls Try.prog 107 #[.pointer (some ⟨p, 0, none⟩)] w fun e w' =>
      e = .returned (.tuple #[.int .i64 ((b.toNat - 48 : Nat) : Int), .bool true]) ∧ PS w' p T (k + 1) ∧ w.grownBy w' (some p) := by
  have c0 : w.cell? ⟨p, 0, none⟩ = some (.string T) := by rw [cell_of_row w p 0 _ _ (0, 0) h]; rfl
  have c1 : w.cell? ⟨p, 1, none⟩ = some (.int .i64 k) := by rw [cell_of_row w p 1 _ _ (0, 0) h]; rfl
  have f1 : w.frozen? ⟨p, 1, none⟩ = false := frozen_of_row w p 1 _ _ h
  have hi := idx hb
  have hk : k < T.size := by simpa using (List.getElem?_eq_some_iff.1 hb).1
  obtain ⟨hlo, hhi⟩ : 49 ≤ b.toNat ∧ b.toNat ≤ 54 := by simpa [isD] using hD
  have hz : ((k : Int) == (T.size : Int)) = false := beq_eq_false_iff_ne.2 (by omega)
  have HR := Lib.hid h
  have hbe : (b.toNat : Int) - 48 = ((b.toNat - 48 : Nat) : Int) := by omega
  have hn6 : b.toNat - 48 ≤ 6 := by omega
  generalize b.toNat - 48 = need at *
  generalize b.toNat = bn at *
  have g1 : decide ((bn : Int) < 49) = false := by simp; omega
  have g2 : decide (54 < (bn : Int)) = false := by simp; omega
  clear hb hD h
  go_enter Try.func107, Try.ntmps107
  go_wp2
  go_quiet (fail)
  go_wp2
  go_quiet (fail)
  go_wp2
  go_ret2
  exact ⟨rfl, (HR.out.countN _).1, (HR.out.countN _).2⟩

set_option maxRecDepth 100000 in
set_option maxHeartbeats 1600000 in
theorem digit_end (p k : Nat) (T : ByteArray) (w : World) (h : PS w p T k) (hk : k = T.size) :
    Calls Try.prog 107 #[.pointer (some ⟨p, 0, none⟩)] w fun e w' => e = .returned (.tuple #[.int .i64 0, .bool false]) ∧ w.grownBy w' (some p) := by
  have c0 : w.cell? ⟨p, 0, none⟩ = some (.string T) := by rw [cell_of_row w p 0 _ _ (0, 0) h]; rfl
  have c1 : w.cell? ⟨p, 1, none⟩ = some (.int .i64 k) := by rw [cell_of_row w p 1 _ _ (0, 0) h]; rfl
  have f1 : w.frozen? ⟨p, 1, none⟩ = false := frozen_of_row w p 1 _ _ h
  have hz : ((k : Int) == (T.size : Int)) = true := beq_iff_eq.2 (by omega)
  clear h
  go_enter Try.func107, Try.ntmps107
  go_wp2
  go_quiet (fail)
  go_wp2
  go_ret2
  exact ⟨rfl, only_drew (World.grownBy.refl w (some p)) _⟩
set_option maxRecDepth 100000 in
set_option maxHeartbeats 1600000 in
theorem digit_no (p k : Nat) (T : ByteArray) (b : UInt8) (w : World) (h : PS w p T k) (hb : T.data.toList[k]? = some b) (hD : isD b = false) :
    Calls Try.prog 107 #[.pointer (some ⟨p, 0, none⟩)] w fun e w' => e = .returned (.tuple #[.int .i64 0, .bool false]) ∧ w.grownBy w' (some p) := by
  have c0 : w.cell? ⟨p, 0, none⟩ = some (.string T) := by rw [cell_of_row w p 0 _ _ (0, 0) h]; rfl
  have c1 : w.cell? ⟨p, 1, none⟩ = some (.int .i64 k) := by rw [cell_of_row w p 1 _ _ (0, 0) h]; rfl
  have f1 : w.frozen? ⟨p, 1, none⟩ = false := frozen_of_row w p 1 _ _ h
  have hi := idx hb
  have hk : k < T.size := by simpa using (List.getElem?_eq_some_iff.1 hb).1
  have hlh : b.toNat < 49 ∨ (49 ≤ b.toNat ∧ 54 < b.toNat) := by simp [isD] at hD; omega
  have hz : ((k : Int) == (T.size : Int)) = false := beq_eq_false_iff_ne.2 (by omega)
  generalize b.toNat = bn at *
  clear hb hD h
  rcases hlh with h1 | ⟨h0, h1⟩
  · have g1 : decide ((bn : Int) < 49) = true := by simp; omega
    go_enter Try.func107, Try.ntmps107
    go_wp2
    go_quiet (fail)
    go_wp2
    go_ret2
    exact ⟨rfl, only_drew (World.grownBy.refl w (some p)) _⟩
  · have g1 : decide ((bn : Int) < 49) = false := by simp; omega
    have g2 : decide (54 < (bn : Int)) = true := by simp; omega
    go_enter Try.func107, Try.ntmps107
    go_wp2
    go_quiet (fail)
    go_wp2
    go_ret2
    exact ⟨rfl, only_drew (World.grownBy.refl w (some p)) _⟩

set_option maxRecDepth 100000 in
set_option maxHeartbeats 1600000 in
theorem take_yes (p k : Nat) (T : ByteArray) (c : Nat) (b : UInt8) (w : World) (h : PS w p T k) (hb : T.data.toList[k]? = some b) (hc : b.toNat = c) (hN : T.size ≤ 1000) :
    Calls Try.prog 108 #[.pointer (some ⟨p, 0, none⟩), .int .u8 (c : Int)] w fun e w' => e = .returned (.bool true) ∧ PS w' p T (k + 1) ∧ w.grownBy w' (some p) := by
  have c0 : w.cell? ⟨p, 0, none⟩ = some (.string T) := by rw [cell_of_row w p 0 _ _ (0, 0) h]; rfl
  have c1 : w.cell? ⟨p, 1, none⟩ = some (.int .i64 k) := by rw [cell_of_row w p 1 _ _ (0, 0) h]; rfl
  have f1 : w.frozen? ⟨p, 1, none⟩ = false := frozen_of_row w p 1 _ _ h
  have hi := idx hb
  rw [hc] at hi
  have hk : k < T.size := by simpa using (List.getElem?_eq_some_iff.1 hb).1
  have hz : ((k : Int) == (T.size : Int)) = false := beq_eq_false_iff_ne.2 (by omega)
  have hne : ((c : Int) != (c : Int)) = false := by simp
  have HR := Lib.hid h
  clear hb h hc
  go_enter Try.func108, Try.ntmps108
  go_wp2
  go_quiet (fail)
  go_wp2
  go_ret
  exact ⟨rfl, (HR.out.countN _).1, (HR.out.countN _).2⟩
set_option maxRecDepth 100000 in
set_option maxHeartbeats 1600000 in
theorem take_end (p k : Nat) (T : ByteArray) (c : Nat) (w : World) (h : PS w p T k) (hk : k = T.size) :
    Calls Try.prog 108 #[.pointer (some ⟨p, 0, none⟩), .int .u8 (c : Int)] w fun e w' => e = .returned (.bool false) ∧ PS w' p T k ∧ w.grownBy w' (some p) := by
  have c0 : w.cell? ⟨p, 0, none⟩ = some (.string T) := by rw [cell_of_row w p 0 _ _ (0, 0) h]; rfl
  have c1 : w.cell? ⟨p, 1, none⟩ = some (.int .i64 k) := by rw [cell_of_row w p 1 _ _ (0, 0) h]; rfl
  have f1 : w.frozen? ⟨p, 1, none⟩ = false := frozen_of_row w p 1 _ _ h
  have hz : ((k : Int) == (T.size : Int)) = true := beq_iff_eq.2 (by omega)
  have HR := Lib.hid h
  clear h
  go_enter Try.func108, Try.ntmps108
  go_wp2
  go_quiet (fail)
  go_wp2
  go_ret
  exact ⟨rfl, HR.out.drew _, only_drew (World.grownBy.refl w (some p)) _⟩
set_option maxRecDepth 100000 in
set_option maxHeartbeats 1600000 in
theorem take_no (p k : Nat) (T : ByteArray) (c : Nat) (b : UInt8) (w : World) (h : PS w p T k) (hb : T.data.toList[k]? = some b) (hc : b.toNat ≠ c) :
    Calls Try.prog 108 #[.pointer (some ⟨p, 0, none⟩), .int .u8 (c : Int)] w fun e w' => e = .returned (.bool false) ∧ PS w' p T k ∧ w.grownBy w' (some p) := by
  have c0 : w.cell? ⟨p, 0, none⟩ = some (.string T) := by rw [cell_of_row w p 0 _ _ (0, 0) h]; rfl
  have c1 : w.cell? ⟨p, 1, none⟩ = some (.int .i64 k) := by rw [cell_of_row w p 1 _ _ (0, 0) h]; rfl
  have f1 : w.frozen? ⟨p, 1, none⟩ = false := frozen_of_row w p 1 _ _ h
  have hi := idx hb
  have hk : k < T.size := by simpa using (List.getElem?_eq_some_iff.1 hb).1
  have hz : ((k : Int) == (T.size : Int)) = false := beq_eq_false_iff_ne.2 (by omega)
  generalize b.toNat = bn at *
  have hne : ((bn : Int) != (c : Int)) = true := by simp; omega
  have HR := Lib.hid h
  clear hb h hc
  go_enter Try.func108, Try.ntmps108
  go_wp2
  go_quiet (fail)
  go_wp2
  go_ret
  exact ⟨rfl, HR.out.drew _, only_drew (World.grownBy.refl w (some p)) _⟩
/-- A mark at the reader's place, taken or not. -/
theorem take_any (p k : Nat) (T : ByteArray) (c : Nat) (w : World) (h : PS w p T k) (hN : T.size ≤ 1000) (hk : k ≤ T.size) :
    Calls Try.prog 108 #[.pointer (some ⟨p, 0, none⟩), .int .u8 (c : Int)] w fun e w' =>
      ((∃ r b, b.toNat = c ∧ T.data.toList.drop k = b :: r ∧ e = .returned (.bool true) ∧ PS w' p T (k + 1)) ∨ ((∀ b r, T.data.toList.drop k = b :: r → b.toNat ≠ c) ∧ e = .returned (.bool false) ∧ PS w' p T k)) ∧ w.grownBy w' (some p) := by
  by_cases hlt : k < T.size
  · obtain ⟨b, hb⟩ : ∃ b, T.data.toList[k]? = some b := ⟨_, List.getElem?_eq_getElem (by simpa using hlt)⟩
    by_cases hc : b.toNat = c
    · exact (take_yes p k T c b w h hb hc hN).mono fun e w' ⟨h1, h2, h3⟩ => ⟨.inl ⟨_, b, hc, drop_cons hb, h1, h2⟩, h3⟩
    · exact (take_no p k T c b w h hb hc).mono fun e w' ⟨h1, h2, h3⟩ => ⟨.inr ⟨fun b' r e1 => by rw [drop_cons hb] at e1; injection e1 with e1; rw [← e1]; exact hc, h1, h2⟩, h3⟩
  · exact (take_end p k T c w h (by omega)).mono fun e w' ⟨h1, h2, h3⟩ => ⟨.inr ⟨fun b' r e1 => (by rw [List.drop_of_length_le (by simp; omega)] at e1; cases e1), h1, h2⟩, h3⟩

/-- The slice at A reads as the values vs, in a block that Q allows. -/
def VL (w : World) (Q : Nat → Prop) (A : Option Addr) (vs : List Value) : Prop :=
  vs = [] ∨ ∃ g off, A = some ⟨g, off, none⟩ ∧ Q g ∧ g < w.heap.size ∧ ∀ j x, vs[j]? = some x → w.cell? ⟨g, off + j, none⟩ = some x
mutual
/-- The value v leads to the tree in memory, all of it in blocks that Q allows. -/
def Tr (w : World) (Q : Nat → Prop) : Ex → Value → Prop
  | .mem m, v => ∃ b, v = .iface 125 (.pointer (some ⟨b, 0, none⟩)) ∧ Q b ∧ w.heap[b]? = some (.cells #[.int .i64 m] 127 (0, 0))
  | .thr k es, v => ∃ b A c vs, v = .iface 108 (.pointer (some ⟨b, 0, none⟩)) ∧ Q b ∧ w.heap[b]? = some (.cells #[.int .i64 k, .slice A es.length c] 111 (0, 0)) ∧ VL w Q A vs ∧ TrL w Q es vs
def TrL (w : World) (Q : Nat → Prop) : List Ex → List Value → Prop
  | [], vs => vs = []
  | e :: es, vs => ∃ v vs', vs = v :: vs' ∧ Tr w Q e v ∧ TrL w Q es vs'
end
theorem VL.keep {w w' : World} {Q Q' : Nat → Prop} (hs : w.heap.size ≤ w'.heap.size) (hk : ∀ b, Q b → b < w.heap.size → Q' b ∧ w'.heap[b]? = w.heap[b]?) {A : Option Addr} {vs : List Value} (h : VL w Q A vs) : VL w' Q' A vs := by
  rcases h with rfl | ⟨g, off, rfl, hQ, hlt, hc⟩
  · exact .inl rfl
  · exact .inr ⟨g, off, rfl, (hk g hQ hlt).1, by omega, fun j x hx => (World.cell?_of_block (a := ⟨g, off + j, none⟩) (hk g hQ hlt).2).trans (hc j x hx)⟩
mutual
theorem Tr.keep {w w' : World} {Q Q' : Nat → Prop} (hs : w.heap.size ≤ w'.heap.size) (hk : ∀ b, Q b → b < w.heap.size → Q' b ∧ w'.heap[b]? = w.heap[b]?) : (e : Ex) → (v : Value) → Tr w Q e v → Tr w' Q' e v
  | .mem m, v, h => by
    simp only [Tr] at h ⊢
    obtain ⟨b, hv, hQ, hb⟩ := h
    have := hk b hQ (Array.getElem?_eq_some_iff.1 hb).1
    exact ⟨b, hv, this.1, this.2.trans hb⟩
  | .thr k es, v, h => by
    simp only [Tr] at h ⊢
    obtain ⟨b, A, c, vs, hv, hQ, hb, hV, hT⟩ := h
    have := hk b hQ (Array.getElem?_eq_some_iff.1 hb).1
    exact ⟨b, A, c, vs, hv, this.1, this.2.trans hb, hV.keep hs hk, TrL.keep hs hk es vs hT⟩
theorem TrL.keep {w w' : World} {Q Q' : Nat → Prop} (hs : w.heap.size ≤ w'.heap.size) (hk : ∀ b, Q b → b < w.heap.size → Q' b ∧ w'.heap[b]? = w.heap[b]?) : (es : List Ex) → (vs : List Value) → TrL w Q es vs → TrL w' Q' es vs
  | [], vs, h => by simpa only [TrL] using h
  | e :: es, vs, h => by
    simp only [TrL] at h ⊢
    obtain ⟨v, vs', hv, h1, h2⟩ := h
    exact ⟨v, vs', hv, Tr.keep hs hk e v h1, TrL.keep hs hk es vs' h2⟩
end
theorem TrL.len {w : World} {Q : Nat → Prop} : (es : List Ex) → (vs : List Value) → TrL w Q es vs → vs.length = es.length
  | [], vs, h => by simp only [TrL] at h; rw [h]; rfl
  | e :: es, vs, h => by
    simp only [TrL] at h
    obtain ⟨v, vs', hv, h1, h2⟩ := h
    rw [hv, List.length_cons, List.length_cons, TrL.len es vs' h2]
theorem TrL.app {w : World} {Q : Nat → Prop} {e : Ex} {v : Value} (h : Tr w Q e v) : (es : List Ex) → (vs : List Value) → TrL w Q es vs → TrL w Q (es ++ [e]) (vs ++ [v])
  | [], vs, hl => by
    simp only [TrL] at hl
    subst hl
    simp only [TrL, List.nil_append]
    exact ⟨v, [], rfl, h, rfl⟩
  | x :: es, vs, hl => by
    simp only [TrL, List.cons_append] at hl ⊢
    obtain ⟨u, vs', hv, h1, h2⟩ := hl
    subst hv
    exact ⟨u, vs' ++ [v], rfl, h1, TrL.app h es vs' h2⟩
theorem TrL.at_ {w : World} {Q : Nat → Prop} : (es : List Ex) → (vs : List Value) → TrL w Q es vs → ∀ (j : Nat) (e : Ex), es[j]? = some e → ∃ v, vs[j]? = some v ∧ Tr w Q e v
  | [], vs, h, j, e, hj => by simp at hj
  | x :: es, vs, h, j, e, hj => by
    simp only [TrL] at h
    obtain ⟨u, vs', hv, h1, h2⟩ := h
    subst hv
    cases j with
    | zero => simp at hj; subst hj; exact ⟨u, by simp, h1⟩
    | succ j => simp at hj; obtain ⟨v, hv, ht⟩ := TrL.at_ es vs' h2 j e hj; exact ⟨v, by simpa using hv, ht⟩
theorem Tr.form {w : World} {Q : Nat → Prop} {e : Ex} {v : Value} (h : Tr w Q e v) : ∃ t a, v = .iface t (.pointer (some a)) := by
  cases e with
  | mem m => simp only [Tr] at h; obtain ⟨b, hv, _⟩ := h; exact ⟨_, _, hv⟩
  | thr k es => simp only [Tr] at h; obtain ⟨b, A, c, vs, hv, _⟩ := h; exact ⟨_, _, hv⟩
theorem VL.of_own {w : World} {base : Nat} {A : Option Addr} {n c : Nat} {vs : List Value} (h : w.ownsRow base 69 1 (.slice A n c) n vs) {Q : Nat → Prop} (hQ : ∀ b, base ≤ b → Q b) : VL w Q A vs := by
  rcases h.2 with ⟨_, h0⟩ | ⟨g, cap, cur, hv, hb, hg, _⟩
  · left; exact List.eq_nil_of_length_eq_zero (by have := h.1; omega)
  · right
    injection hv with hA
    subst hA
    refine ⟨g, 0, rfl, hQ g hb, (Array.getElem?_eq_some_iff.1 hg).1, fun j x hx => ?_⟩
    have := h.cells (g := g) rfl j x hx
    rw [Addr.add_lit] at this
    exact this
end Go.Proofs.Ytgbijndfpbcjeaa
