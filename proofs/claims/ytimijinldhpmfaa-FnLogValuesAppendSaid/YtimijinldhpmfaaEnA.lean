/- Lists of structs of two cells (LogEntry), in memory. -/
import Derived.Test.YtimijinldhpmfaaAcp
import Derived.Test.YtimijinldhpmfaaSSM
namespace Go.Proofs.Ytimijinldhpmfaa
open Go.RowKit

abbrev En := Int × Int
def En.val (x : En) : Value := .agg #[.int .i64 x.1, .int .i64 x.2]
/-- The cells of a list. -/
def ens (l : List En) : List Value := l.flatMap fun x => [.int .i64 x.1, .int .i64 x.2]
theorem ens_nil : ens [] = [] := rfl
theorem ens_cons (x : En) (l : List En) : ens (x :: l) = .int .i64 x.1 :: .int .i64 x.2 :: ens l := rfl
theorem ens_app (l m : List En) : ens (l ++ m) = ens l ++ ens m := by simp [ens]
theorem ens_one (l : List En) (x : En) : ens l ++ [.int .i64 x.1, .int .i64 x.2] = ens (l ++ [x]) := by rw [ens_app]; rfl
theorem ens_len (l : List En) : (ens l).length = l.length * 2 := by
  induction l with
  | nil => rfl
  | cons x l ih => rw [ens_cons]; simp [ih]; omega
theorem ens_cells (l : List En) : ∀ u ∈ ens l, u.oneCell' = true := by
  intro u hu
  simp only [ens, List.mem_flatMap] at hu
  obtain ⟨x, _, hx⟩ := hu
  simp at hx
  rcases hx with rfl | rfl <;> rfl
theorem ens_at : ∀ (l : List En) (k : Nat) (x : En), l[k]? = some x → (ens l)[k * 2]? = some (.int .i64 x.1) ∧ (ens l)[k * 2 + 1]? = some (.int .i64 x.2)
  | [], k, x, h => by simp at h
  | y :: l, 0, x, h => by simp at h; subst h; simp [ens_cons]
  | y :: l, k + 1, x, h => by
    have := ens_at l k x (by simpa using h)
    rw [ens_cons, show (k + 1) * 2 = k * 2 + 1 + 1 by omega]
    simpa using this
theorem ens_set : ∀ (l : List En) (k : Nat) (x : En), k < l.length → ((ens l).set (k * 2) (.int .i64 x.1)).set (k * 2 + 1) (.int .i64 x.2) = ens (l.set k x)
  | [], k, x, h => by simp at h
  | y :: l, 0, x, h => by simp [ens_cons]
  | y :: l, k + 1, x, h => by
    have := ens_set l k x (by simpa using h)
    rw [ens_cons, show (k + 1) * 2 = k * 2 + 1 + 1 by omega]
    simp [ens_cons, this]
/-- The slice at A reads as the list l. -/
def EnL (w : World) (A : Option Addr) (l : List En) : Prop :=
  l = [] ∨ ∃ b off, A = some ⟨b, off, none⟩ ∧ b < w.heap.size ∧ ∀ j u, (ens l)[j]? = some u → w.cell? ⟨b, off + j, none⟩ = some u
section
variable {w w' : World} {A : Option Addr} {l : List En}
theorem EnL.at_ {k : Nat} (h : EnL w A l) (hk : k < l.length) :
    ∃ b off x, A = some ⟨b, off, none⟩ ∧ l[k]? = some x ∧ w.cell? ⟨b, off + k * 2, none⟩ = some (.int .i64 x.1) ∧ w.cell? ⟨b, off + k * 2 + 1, none⟩ = some (.int .i64 x.2) := by
  rcases h with rfl | ⟨b, off, rfl, _, hc⟩
  · simp at hk
  · obtain ⟨h0, h1⟩ := ens_at l k l[k] (List.getElem?_eq_getElem hk)
    exact ⟨b, off, l[k], rfl, List.getElem?_eq_getElem hk, hc _ _ h0, hc _ _ h1⟩
theorem EnL.keep (h : EnL w A l) (hs : w.heap.size ≤ w'.heap.size) (hb : ∀ b off, A = some ⟨b, off, none⟩ → b < w.heap.size → w'.heap[b]? = w.heap[b]?) : EnL w' A l := by
  rcases h with rfl | ⟨b, off, rfl, hlt, hc⟩
  · exact .inl rfl
  · exact .inr ⟨b, off, rfl, Nat.lt_of_lt_of_le hlt hs, fun j x hx => (World.cell?_of_block (a := ⟨b, off + j, none⟩) (hb b off rfl hlt)).trans (hc j x hx)⟩
theorem EnL.below (h : EnL w A l) (hb : Below w.heap.size w w') : EnL w' A l := h.keep hb.size fun b _ _ hlt => hb.block b hlt
theorem EnL.take {k : Nat} (h : EnL w A l) : EnL w A (l.take k) := by
  rcases h with rfl | ⟨b, off, rfl, hlt, hc⟩
  · left; simp
  · refine .inr ⟨b, off, rfl, hlt, fun j u hu => hc j u ?_⟩
    have : ens l = ens (l.take k) ++ ens (l.drop k) := by rw [← ens_app, List.take_append_drop]
    rw [this, List.getElem?_append_left (List.getElem?_eq_some_iff.1 hu).1]
    exact hu
end
/-- A row of the call's own, made when the heap had between lo and hi blocks. -/
def OEn (w : World) (lo hi : Nat) (A : Option Addr) (c : Nat) (l : List En) : Prop :=
  ∃ T, w.ownsRow lo T 2 (.slice A l.length c) l.length (ens l) ∧ hi ≤ w.heap.size ∧ ∀ g, (Value.slice A l.length c).ownBlock = some g → lo ≤ g ∧ g < hi
section
variable {w w' : World} {lo hi c : Nat} {A : Option Addr} {l : List En}
theorem en_row {base T : Nat} (h : w.ownsRow base T 2 (.slice A l.length c) l.length (ens l)) : EnL w A l := by
  rcases h.2 with ⟨_, h0⟩ | ⟨g, cap, cur, hv, hb, hg, _, _, _, ht⟩
  · left; exact List.eq_nil_of_length_eq_zero (by omega)
  · right
    injection hv with hA
    subst hA
    refine ⟨g, 0, rfl, (Array.getElem?_eq_some_iff.1 hg).1, fun j x hx => ?_⟩
    have := World.ownsRow.cells h (g := g) rfl j x hx
    rw [Addr.add_lit] at this
    exact this
theorem OEn.rd (h : OEn w lo hi A c l) : EnL w A l := by obtain ⟨T, h, _⟩ := h; exact en_row h
theorem OEn.hi_le (h : OEn w lo hi A c l) : hi ≤ w.heap.size := by obtain ⟨_, _, hh, _⟩ := h; exact hh
theorem OEn.keep {lo2 hi2 : Nat} (h : OEn w lo hi A c l) (k : Keep lo2 hi2 w w') (hd : hi ≤ lo2 ∨ hi2 ≤ lo) : OEn w' lo hi A c l := by
  obtain ⟨T, ho, hh, hb⟩ := h
  exact ⟨T, own_at ho fun g hg => k.block g (by have := hb g hg; omega) (by have := hb g hg; omega), Nat.le_trans hh k.size, hb⟩
theorem OEn.below (h : OEn w lo hi A c l) (hb : Below w.heap.size w w') : OEn w' lo hi A c l := h.keep (Keep.of_below w.heap.size w.heap.size hb) (.inl h.hi_le)
theorem OEn.of_new {T : Nat} (h : w.ownsRow lo T 2 (.slice A l.length c) l.length (ens l)) : OEn w lo w.heap.size A c l := ⟨T, h, Nat.le_refl _, fun g hg => h.lt g hg⟩
end
/-- A row of n of the call's own, of which the first k read as the list. -/
def RWEn (w : World) (g n : Nat) (l : List En) (k : Nat) : Prop :=
  ∃ T cur, w.heap[g]? = some (.cells cur T (0, 0)) ∧ cur.size = n * 2 ∧ ∀ j, j < k * 2 → cur[j]? = (ens l)[j]?
theorem en_set_at {cur : Array Value} {j i : Nat} {u : Value} (hi : i < cur.size) : (cur.setIfInBounds i u)[j]? = if i = j then some u else cur[j]? := by
  rw [Array.getElem?_setIfInBounds]
  by_cases h : i = j
  · simp [h, h ▸ hi]
  · simp [h]
section
variable {w w' : World} {g n k : Nat} {l : List En}
theorem RWEn.lt (h : RWEn w g n l k) : g < w.heap.size := by obtain ⟨T, cur, h, _⟩ := h; exact (Array.getElem?_eq_some_iff.1 h).1
theorem RWEn.kept (h : RWEn w g n l k) (hb : w'.heap[g]? = w.heap[g]?) : RWEn w' g n l k := by obtain ⟨T, cur, h1, h2⟩ := h; exact ⟨T, cur, hb.trans h1, h2⟩
theorem RWEn.below (h : RWEn w g n l k) (hb : Below w.heap.size w w') : RWEn w' g n l k := h.kept (hb.block g h.lt)
theorem RWEn.fz (h : RWEn w g n l k) (j : Nat) : w.frozen? ⟨g, j, none⟩ = false := by obtain ⟨T, cur, h, _⟩ := h; exact frozen_of_row w g j _ _ h
theorem RWEn.cellAt (h : RWEn w g n l k) {j : Nat} (hj : j < n * 2) : ∃ u, w.cell? ⟨g, j, none⟩ = some u := by
  obtain ⟨T, cur, h, hs, _⟩ := h
  exact ⟨cur[j]'(by omega), by rw [cell_of_row w g j _ _ (0, 0) h]; exact Array.getElem?_eq_getElem (by omega)⟩
theorem RWEn.next (h : RWEn w g n l k) {x : En} (hx : l[k]? = some x) (hk : k < n) :
    RWEn ((w.setCell ⟨g, k * 2, none⟩ (.int .i64 x.1)).setCell ⟨g, k * 2 + 1, none⟩ (.int .i64 x.2)) g n l (k + 1) := by
  obtain ⟨T, cur, h1, h2, h3⟩ := h
  obtain ⟨e0, e1⟩ := ens_at l k x hx
  refine ⟨T, _, heap_setCell_same _ _ _ _ _ _ (heap_setCell_same _ _ _ _ _ _ h1), by simpa using h2, fun j hj => ?_⟩
  rw [en_set_at (by simp; omega), en_set_at (by omega)]
  by_cases q1 : k * 2 + 1 = j
  · rw [if_pos q1, ← q1, e1]
  · rw [if_neg q1]
    by_cases q0 : k * 2 = j
    · rw [if_pos q0, ← q0, e0]
    · rw [if_neg q0]
      exact h3 j (by omega)
theorem RWEn.nextB {w0 : World} (hb : Below w0.heap.size w0 w) (hg : w0.heap.size ≤ g) (x : En) : Below w0.heap.size w0 ((w.setCell ⟨g, k * 2, none⟩ (.int .i64 x.1)).setCell ⟨g, k * 2 + 1, none⟩ (.int .i64 x.2)) :=
  (hb.setCell hg _).setCell hg _
theorem RWEn.made {T : Nat} {xs : List Value} (h : w.ownsRow g T 2 (.slice (some ⟨g, 0, none⟩) n n) n xs) : RWEn w g n l 0 := by
  rcases h.2 with ⟨h0, _⟩ | ⟨g', cap, cur, hv, _, hg, _, _, hs, _⟩
  · cases h0
  · injection hv with hA hn hc
    injection hA with hA
    injection hA with hA
    subst hA; subst hc
    exact ⟨_, cur, hg, hs, fun j hj => by omega⟩
theorem RWEn.own {base : Nat} (h : RWEn w g l.length l l.length) (hb : base ≤ g) (hm : l.length ≤ maxLen) : ∃ T, w.ownsRow base T 2 (.slice (some ⟨g, 0, none⟩) l.length l.length) l.length (ens l) := by
  obtain ⟨T, cur, h1, h2, h4⟩ := h
  refine ⟨T, ens_len l, .inr ⟨g, l.length, cur, rfl, hb, h1, Nat.le_refl _, hm, h2, ?_⟩⟩
  rw [List.take_of_length_le (by simp [h2])]
  apply List.ext_getElem?
  intro j
  rcases Nat.lt_or_ge j (l.length * 2) with hj | hj
  · rw [← h4 j hj]; simp
  · rw [List.getElem?_eq_none (by simp [h2]; exact hj), List.getElem?_eq_none (by rw [ens_len]; exact hj)]
end
/-- A block of two cells. -/
def AFEn (w : World) (b : Nat) (x : En) : Prop := ∃ T, w.heap[b]? = some (.cells #[.int .i64 x.1, .int .i64 x.2] T (0, 0))
section
variable {w w' : World} {b : Nat} {x : En}
theorem AFEn.new (w : World) (x : En) (T : Nat) : AFEn (w.alloc (.cells #[.int .i64 x.1, .int .i64 x.2] T)) w.heap.size x := ⟨T, heap_alloc_new w _⟩
theorem AFEn.lt (h : AFEn w b x) : b < w.heap.size := by obtain ⟨T, h⟩ := h; exact (Array.getElem?_eq_some_iff.1 h).1
theorem AFEn.kept (h : AFEn w b x) (hb : w'.heap[b]? = w.heap[b]?) : AFEn w' b x := by obtain ⟨T, h⟩ := h; exact ⟨T, hb.trans h⟩
theorem AFEn.below (h : AFEn w b x) (hb : Below w.heap.size w w') : AFEn w' b x := h.kept (hb.block b h.lt)
theorem AFEn.alloc (h : AFEn w b x) (o : Obj) : AFEn (w.alloc o) b x := h.kept (Below.heap_alloc w o b h.lt)
theorem AFEn.fz (h : AFEn w b x) (j : Nat) : w.frozen? ⟨b, j, none⟩ = false := by obtain ⟨T, h⟩ := h; exact frozen_of_row w b j _ _ h
theorem AFEn.c (h : AFEn w b x) : w.cell? ⟨b, 0, none⟩ = some (.int .i64 x.1) ∧ w.cell? ⟨b, 1, none⟩ = some (.int .i64 x.2) := by
  obtain ⟨T, h⟩ := h
  exact ⟨by rw [cell_of_row w b 0 _ _ (0, 0) h]; rfl, by rw [cell_of_row w b 1 _ _ (0, 0) h]; rfl⟩
theorem AFEn.set {y : En} (h : AFEn w b y) (x : En) : AFEn ((w.setCell ⟨b, 0, none⟩ (.int .i64 x.1)).setCell ⟨b, 1, none⟩ (.int .i64 x.2)) b x := by
  obtain ⟨T, h⟩ := h
  exact ⟨T, heap_setCell_same _ _ _ _ _ _ (heap_setCell_same _ _ _ _ _ _ h)⟩
end
theorem en_two {w : World} {x : En} {T : Nat} : ∀ j u, ([.int .i64 x.1, .int .i64 x.2] : List Value)[j]? = some u → (w.alloc (.cells #[.int .i64 x.1, .int .i64 x.2] T)).cell? ((⟨w.heap.size, 0, none⟩ : Addr).add j) = some u := by
  intro j u hu
  obtain ⟨c0, c1⟩ := (AFEn.new w x T).c
  match j with
  | 0 => simp at hu; subst hu; exact c0
  | 1 => simp at hu; subst hu; exact c1
  | j + 2 => simp at hu
theorem en_own {w : World} {base T : Nat} {v : Value} {n : Nat} {l : List En} (hn : n = l.length) (h : w.ownsRow base T 2 v n (ens l)) : ∃ A c, v = .slice A l.length c ∧ w.ownsRow base T 2 (.slice A l.length c) l.length (ens l) := by
  subst hn
  rcases h.2 with ⟨rfl, h0⟩ | ⟨g, cap, cur, rfl, _⟩
  · exact ⟨none, 0, by rw [← h0], by rw [← h0]; rw [← h0] at h; exact h⟩
  · exact ⟨_, _, rfl, h⟩
end Go.Proofs.Ytimijinldhpmfaa
