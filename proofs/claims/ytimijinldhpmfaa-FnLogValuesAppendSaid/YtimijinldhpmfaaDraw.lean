/- The readers of codes by their contracts. -/
import Derived.Test.YtimijinldhpmfaaSpecM
namespace Go.Proofs.Ytimijinldhpmfaa
open Go.RowKit

/-- The slice at A reads as the list l of bytes. -/
def BL (w : World) (A : Option Addr) (l : List Int) : Prop :=
  l = [] ∨ ∃ b off, A = some ⟨b, off, none⟩ ∧ b < w.heap.size ∧ ∀ j x, l[j]? = some x → w.cell? ⟨b, off + j, none⟩ = some (.int .u8 x) ∧ 0 ≤ x ∧ x ≤ 255
theorem BL.at_ {w : World} {A : Option Addr} {l : List Int} {k : Nat} (h : BL w A l) (hk : k < l.length) :
    ∃ b off x, A = some ⟨b, off, none⟩ ∧ w.cell? ⟨b, off + k, none⟩ = some (.int .u8 x) ∧ 0 ≤ x ∧ x ≤ 255 := by
  rcases h with rfl | ⟨b, off, rfl, _, hc⟩
  · simp at hk
  · obtain ⟨h1, h2, h3⟩ := hc k l[k] (List.getElem?_eq_getElem hk)
    exact ⟨b, off, l[k], rfl, h1, h2, h3⟩
theorem BL.keep {w w' : World} {A : Option Addr} {l : List Int} (h : BL w A l) (hs : w.heap.size ≤ w'.heap.size) (hb : ∀ b off, A = some ⟨b, off, none⟩ → b < w.heap.size → w'.heap[b]? = w.heap[b]?) : BL w' A l := by
  rcases h with rfl | ⟨b, off, rfl, hlt, hc⟩
  · exact .inl rfl
  · exact .inr ⟨b, off, rfl, Nat.lt_of_lt_of_le hlt hs, fun j x hx => ⟨(World.cell?_of_block (a := ⟨b, off + j, none⟩) (hb b off rfl hlt)).trans (hc j x hx).1, (hc j x hx).2⟩⟩
theorem BL.below {w w' : World} {A : Option Addr} {l : List Int} (h : BL w A l) (hb : Below w.heap.size w w') : BL w' A l := h.keep hb.size fun b _ _ hlt => hb.block b hlt

/-- A reader at block g: its code, and how much of it was read. The code lies elsewhere. -/
def Rd (w : World) (g : Nat) (A : Option Addr) (c : Nat) (l : List Int) (p : Nat) : Prop :=
  w.heap[g]? = some (.cells #[.slice A l.length c, .int .i64 p] 68 (0, 0)) ∧ BL w A l ∧ l.length ≤ 2000 ∧ ∀ b off, A = some ⟨b, off, none⟩ → l ≠ [] → b < g

theorem only_drew {a w : World} {row : Option Nat} (h : a.grownBy w row) (n : Nat) : a.grownBy (w.drewN n) row := ⟨h.os, h.tape, h.output, h.size, h.block⟩
theorem xor_small (z : Nat) (hz : z < 268435456) : ∃ v : Nat, bits .xor .i64 (z : Int) ((z : Int) / 64) = (v : Int) ∧ v < 268435456 := by
  refine ⟨z ^^^ (z / 64), ?_, Nat.xor_lt_two_pow (n := 28) (by omega) (by omega)⟩
  have hx : z ^^^ (z / 64) < 2 ^ 28 := Nat.xor_lt_two_pow (by omega) (by omega)
  have e : (z : Int) / 64 = ((z / 64 : Nat) : Int) := by omega
  have o : ∀ a : Nat, a < 2 ^ 28 → (BitVec.ofInt 64 (a : Int)).toNat = a := fun a ha => by
    rw [BitVec.ofInt_natCast, BitVec.toNat_ofNat]; exact Nat.mod_eq_of_lt (by omega)
  rw [e]
  show IntKind.i64.wrap ((BitVec.ofInt 64 (z : Int) ^^^ BitVec.ofInt 64 ((z / 64 : Nat) : Int)).toNat : Int) = _
  rw [BitVec.toNat_xor, o z (by omega), o (z / 64) (by omega)]
  exact IntWalk.i64_in _ (by omega)
/-- The reader behind its count. -/
theorem Rd.count {w : World} {g : Nat} {A : Option Addr} {c : Nat} {l : List Int} {p : Nat} (h : Rd w g A c l p) :
    Rd (w.setCell ⟨g, 1, none⟩ (.int .i64 ((p : Int) + 1))) g A c l (p + 1) ∧ w.grownBy (w.setCell ⟨g, 1, none⟩ (.int .i64 ((p : Int) + 1))) (some g) := by
  obtain ⟨hh, hbl, hl, hne⟩ := h
  have hgr : w.grownBy (w.setCell ⟨g, 1, none⟩ (.int .i64 ((p : Int) + 1))) (some g) := ⟨rfl, rfl, rfl, by simp [World.setCell], fun i _ hne => Below.heap_setCell w ⟨g, 1, none⟩ _ i (by rintro rfl; exact hne rfl)⟩
  refine ⟨⟨heap_setCell_same w g 1 _ _ _ hh, ?_, hl, hne⟩, hgr⟩
  rcases hbl with rfl | ⟨b, off, rfl, hlt, hc⟩
  · exact .inl rfl
  · by_cases hle : l = []
    · exact .inl hle
    · exact BL.keep (.inr ⟨b, off, rfl, hlt, hc⟩) hgr.size fun b' off' e hlt' => hgr.block b' hlt' (by have := hne b' off' e hle; intro h; injection h with h; omega)

set_option maxRecDepth 100000 in
set_option maxHeartbeats 1600000 in
theorem pick_any (g : Nat) (A : Option Addr) (c : Nat) (l : List Int) (p : Nat) (n : Int) (w : World) (h : Rd w g A c l p) (hn : 1 ≤ n) (hn2 : n ≤ 1000000) (hp : p ≤ 1000000) :
    Calls Try.prog 46 #[.pointer (some ⟨g, 0, none⟩), .int .i64 n] w fun e w' => ∃ x : Int, 0 ≤ x ∧ x < n ∧ e = .returned (.int .i64 x) ∧ Rd w' g A c l (p + 1) ∧ w.grownBy w' (some g) := by
  have hR := h.count
  have hh := h.1
  have hl := h.2.2.1
  have c1 : w.cell? ⟨g, 1, none⟩ = some (.int .i64 p) := by rw [cell_of_row w g 1 _ _ (0, 0) hh]; rfl
  have f1 : w.frozen? ⟨g, 1, none⟩ = false := frozen_of_row w g 1 _ _ hh
  have d0 : (w.setCell ⟨g, 1, none⟩ (.int .i64 ((p : Int) + 1))).cell? ⟨g, 0, none⟩ = some (.slice A l.length c) := by rw [cell_of_row _ g 0 _ _ (0, 0) hR.1.1]; rfl
  have d1 : (w.setCell ⟨g, 1, none⟩ (.int .i64 ((p : Int) + 1))).cell? ⟨g, 1, none⟩ = some (.int .i64 ((p : Int) + 1)) := by rw [cell_of_row _ g 1 _ _ (0, 0) hR.1.1]; rfl
  have hB := hR.1.2.1
  have HR := Lib.hid hR
  clear hh h hR
  obtain ⟨N, hN⟩ : ∃ N, N = l.length := ⟨_, rfl⟩
  rw [← hN] at d0 hl
  have HN := Lib.hid hN
  clear hN
  by_cases h0 : N = 0
  · have hz : ((N : Int) == 0) = true := beq_iff_eq.2 (by omega)
    clear h0
    go_enter Try.func46, Try.ntmps46
    go_wp2
    go_ret
    exact ⟨0, by omega, by omega, rfl, HR.out.1, HR.out.2⟩
  · have hz : ((N : Int) == 0) = false := beq_eq_false_iff_ne.2 (by omega)
    have hl0 : 0 < N := by omega
    clear h0
    by_cases hk : p < N
    · obtain ⟨b, off, x, rfl, hx, hx0, hx1⟩ := hB.at_ (k := p) (by rw [← HN.out]; exact hk)
      clear hB
      go_enter Try.func46, Try.ntmps46
      go_wp2
      go_ret
      exact ⟨_, Int.emod_nonneg _ (by omega), Int.emod_lt_of_pos _ (by omega), rfl, HR.out.1, HR.out.2⟩
    · have hm1 : p % N < N := Nat.mod_lt _ hl0
      have hm2 : (p * 7 + 3) % N < N := Nat.mod_lt _ hl0
      have hm3 : p / N ≤ p := Nat.div_le_self _ _
      have e1 : (p : Int).tmod (N : Int) = ((p % N : Nat) : Int) := by rw [Int.tmod_eq_emod_of_nonneg (by omega)]; simp
      have e2 : ((p : Int) * 7 + 3).tmod (N : Int) = (((p * 7 + 3) % N : Nat) : Int) := by rw [Int.tmod_eq_emod_of_nonneg (by omega)]; simp
      have e3 : (p : Int).tdiv (N : Int) = ((p / N : Nat) : Int) := by rw [Int.tdiv_eq_ediv_of_nonneg (by omega)]; simp
      obtain ⟨b, off, x, rfl, hx, hx0, hx1⟩ := hB.at_ (k := p % N) (by rw [← HN.out]; exact hm1)
      obtain ⟨b', off', y, hA, hy, hy0, hy1⟩ := hB.at_ (k := (p * 7 + 3) % N) (by rw [← HN.out]; exact hm2)
      obtain ⟨rfl, rfl⟩ : b = b' ∧ off = off' := by injection hA with h; injection h with h1 h2; exact ⟨h1, h2⟩
      clear hA hB
      generalize p % N = r at *
      generalize (p * 7 + 3) % N = s at *
      generalize p / N = d at *
      have hzn : ¬ N = 0 := by omega
      have wx : IntKind.i64.wrap x = x := IntWalk.i64_in _ (by omega)
      have wy : IntKind.i64.wrap y = y := IntWalk.i64_in _ (by omega)
      have w1 : IntKind.i64.wrap (x * 131) = x * 131 := IntWalk.i64_in _ (by omega)
      have w2 : IntKind.i64.wrap ((p : Int) * 7) = (p : Int) * 7 := IntWalk.i64_in _ (by omega)
      have w3 : IntKind.i64.wrap ((p : Int) * 7 + 3) = (p : Int) * 7 + 3 := IntWalk.i64_in _ (by omega)
      have w4 : IntKind.i64.wrap (y * 1117) = y * 1117 := IntWalk.i64_in _ (by omega)
      have w5 : IntKind.i64.wrap (x * 131 + y * 1117) = x * 131 + y * 1117 := IntWalk.i64_in _ (by omega)
      have w6 : IntKind.i64.wrap ((p : Int) * 29) = (p : Int) * 29 := IntWalk.i64_in _ (by omega)
      have w7 : IntKind.i64.wrap (x * 131 + y * 1117 + (p : Int) * 29) = x * 131 + y * 1117 + (p : Int) * 29 := IntWalk.i64_in _ (by omega)
      have w8 : IntKind.i64.wrap ((d : Int) * 53) = (d : Int) * 53 := IntWalk.i64_in _ (by omega)
      have w9 : IntKind.i64.wrap (x * 131 + y * 1117 + (p : Int) * 29 + (d : Int) * 53) = x * 131 + y * 1117 + (p : Int) * 29 + (d : Int) * 53 := IntWalk.i64_in _ (by omega)
      have r0 : (0 : Int) ≤ (r : Int) := by omega
      have r1 : (r : Int) < (N : Int) := by omega
      have s0 : (0 : Int) ≤ (s : Int) := by omega
      have s1 : (s : Int) < (N : Int) := by omega
      go_enter Try.func46, Try.ntmps46
      go_wp2
      go_quiet (fail)
      clear wx wy w1 w2 w3 w4 w5 w6 w7 w8 w9 e1 e2 e3 hx hy
      obtain ⟨z, hze⟩ := Int.eq_ofNat_of_zero_le (show 0 ≤ x * 131 + y * 1117 + (p : Int) * 29 + (d : Int) * 53 by omega)
      have hz2 : z < 268435456 := by omega
      rw [hze]
      clear hze r0 r1 s0 s1 hm1 hm2
      obtain ⟨v, hv, hvb⟩ := xor_small z hz2
      go_wp2
      go_ret
      exact ⟨_, Int.emod_nonneg _ (by omega), Int.emod_lt_of_pos _ (by omega), rfl, HR.out.1, only_drew HR.out.2 _⟩

/-- A reader at block g, whatever its code. -/
def RdX (w : World) (g p : Nat) : Prop := ∃ A c l, Rd w g A c l p
theorem RdX.lt {w : World} {g p : Nat} (h : RdX w g p) : g < w.heap.size := by
  obtain ⟨A, c, l, h⟩ := h
  exact (Array.getElem?_eq_some_iff.1 h.1).1
/-- Writes into later blocks leave it alone. -/
theorem RdX.grown {w w' : World} {g p : Nat} {row : Option Nat} (h : RdX w g p) (hg : w.grownBy w' row) (hr : ∀ k, row = some k → g < k) : RdX w' g p := by
  have hlt := h.lt
  obtain ⟨A, c, l, h1, h2, h3, h4⟩ := h
  refine ⟨A, c, l, (hg.block g hlt (fun e => by have := hr g e.symm; omega)).trans h1, ?_, h3, h4⟩
  by_cases hl : l = []
  · exact .inl hl
  · exact h2.keep hg.size fun b off e hb => hg.block b hb (fun e2 => by have := hr b e2.symm; have := h4 b off e hl; omega)
theorem RdX.below {w w' : World} {g p : Nat} (h : RdX w g p) (hb : Below w.heap.size w w') : RdX w' g p :=
  h.grown (row := none) ⟨hb.os, hb.tape, hb.output, hb.size, fun i hi _ => hb.block i hi⟩ (by simp)
theorem grown_trans {a b c : World} {row : Option Nat} (h : a.grownBy b row) (k : b.grownBy c row) : a.grownBy c row :=
  ⟨k.os.trans h.os, k.tape.trans h.tape, k.output.trans h.output, Nat.le_trans h.size k.size, fun i hi hne => (k.block i (Nat.lt_of_lt_of_le hi h.size) hne).trans (h.block i hi hne)⟩
theorem grown_below {a b c : World} {row : Option Nat} (h : a.grownBy b row) (k : Below b.heap.size b c) : a.grownBy c row :=
  ⟨k.os.trans h.os, k.tape.trans h.tape, k.output.trans h.output, Nat.le_trans h.size k.size, fun i hi hne => (k.block i (Nat.lt_of_lt_of_le hi h.size)).trans (h.block i hi hne)⟩
/-- Writes into blocks that are new to a. -/
theorem grown_new {a b c : World} {row row2 : Option Nat} (h : a.grownBy b row) (k : b.grownBy c row2) (hn : ∀ i, row2 = some i → a.heap.size ≤ i) : a.grownBy c row :=
  ⟨k.os.trans h.os, k.tape.trans h.tape, k.output.trans h.output, Nat.le_trans h.size k.size, fun i hi hne => (k.block i (Nat.lt_of_lt_of_le hi h.size) (fun e => by have := hn i e.symm; omega)).trans (h.block i hi hne)⟩

theorem pickX (g p : Nat) (n : Int) (w : World) (h : RdX w g p) (hn : 1 ≤ n) (hn2 : n ≤ 1000000) (hp : p ≤ 1000000) :
    Calls Try.prog 46 #[.pointer (some ⟨g, 0, none⟩), .int .i64 n] w fun e w' => ∃ x : Int, 0 ≤ x ∧ x < n ∧ e = .returned (.int .i64 x) ∧ RdX w' g (p + 1) ∧ w.grownBy w' (some g) := by
  obtain ⟨A, c, l, h⟩ := h
  exact (pick_any g A c l p n w h hn hn2 hp).mono fun e w' ⟨x, h0, h1, he, hr, hg⟩ => ⟨x, h0, h1, he, ⟨A, c, l, hr⟩, hg⟩

theorem rd_new (w : World) (A : Option Addr) (c : Nat) (l : List Int) (ha : BL w A l) (hl : l.length ≤ 2000) :
    RdX (w.alloc (.cells #[.slice A l.length c, .int .i64 0] 68)) w.heap.size 0 := by
  refine ⟨A, c, l, heap_alloc_new w _, ha.below ((Below.refl _ _).alloc (Nat.le_refl _) _), hl, fun b off e hne => ?_⟩
  rcases ha with rfl | ⟨b', off', rfl, hlt, _⟩
  · exact absurd rfl hne
  · injection e with e; injection e with e1; omega
theorem BL.take {w : World} {A : Option Addr} {l : List Int} (h : BL w A l) (n : Nat) : BL w A (l.take n) := by
  rcases h with rfl | ⟨b, off, rfl, hlt, hc⟩
  · left; simp
  · refine .inr ⟨b, off, rfl, hlt, fun j x hx => hc j x ?_⟩
    rw [List.getElem?_take] at hx
    split at hx
    · exact hx
    · cases hx

set_option maxRecDepth 100000 in
set_option maxHeartbeats 800000 in
theorem l6Open_any (A : Option Addr) (c : Nat) (l : List Int) (w : World) (ha : BL w A l) (hc : l.length ≤ c) (hm : l.length ≤ maxLen) (hmc : c ≤ maxLen) :
    Calls Try.prog 44 #[.slice A l.length c] w fun e w' => e = .returned (.pointer (some ⟨w.heap.size, 0, none⟩)) ∧ RdX w' w.heap.size 0 ∧ Below w.heap.size w w' := by
  unfold maxLen at hm hmc
  by_cases hl : l.length ≤ 2000
  · have H := Lib.hid (rd_new w A c l ha hl)
    go_enter Try.func44, Try.ntmps44
    go_wp2
    go_ret
    exact ⟨rfl, H.out, (Below.refl _ _).alloc (Nat.le_refl _) _⟩
  · have h2 : (l.take 2000).length = 2000 := by simp; omega
    have H := rd_new w A c (l.take 2000) (ha.take 2000) (by omega)
    rw [h2] at H
    have H2 := Lib.hid H
    clear H h2
    have hA : ∃ b off, A = some ⟨b, off, none⟩ := by
      rcases ha with rfl | ⟨b, off, rfl, _⟩
      · simp at hl
      · exact ⟨b, off, rfl⟩
    obtain ⟨b, off, rfl⟩ := hA
    obtain ⟨N, hN⟩ : ∃ N, N = l.length := ⟨_, rfl⟩
    rw [← hN] at hl hc hm ⊢
    clear hN
    go_enter Try.func44, Try.ntmps44
    go_wp2
    go_ret
    exact ⟨rfl, H2.out, (Below.refl _ _).alloc (Nat.le_refl _) _⟩

/-- A drawn set: few numbers in a new row; of what was there only the reader's block has turned. -/
def Drawn (w : World) (g : Nat) (e : Ending) (w' : World) : Prop :=
  ∃ (l : List Int) (A : Option Addr) (c p : Nat), l.length ≤ 7 ∧ e = .returned (.slice A l.length c) ∧ w'.ownsRow w.heap.size 3 1 (.slice A l.length c) l.length (l.map (Value.int .i64)) ∧ RdX w' g p ∧ p ≤ 8 ∧ w.grownBy w' (some g)
theorem Drawn.mk {w w' : World} {g p : Nat} {l : List Int} {v : Value} (hl : l.length ≤ 7) (h : w'.ownsRow w.heap.size 3 1 v l.length (l.map (Value.int .i64))) (hr : RdX w' g p) (hp : p ≤ 8) (hg : w.grownBy w' (some g)) : Drawn w g (.returned v) w' := by
  obtain ⟨A, c, rfl⟩ := own_slice h
  exact ⟨l, A, c, p, hl, rfl, h, hr, hp, hg⟩
/-- Behind an append of one drawn number. -/
theorem drawn_app {w w3 w4 : World} {g p : Nat} {l : List Int} {v v' : Value} {x : Int} {o : Obj} (hl : l.length ≤ 6) (hlt : g < w.heap.size)
    (hg2 : w.grownBy w3 (some g)) (hr : RdX w3 g p) (hp : p ≤ 8) (hv : ∀ k, v.ownBlock = some k → w.heap.size ≤ k)
    (ho : w4.ownsRow w.heap.size 3 1 v' (l.length + 1) (l.map (Value.int .i64) ++ [.int .i64 x])) (hg : (w3.alloc o).grownBy w4 v.ownBlock) : Drawn w g (.returned v') w4 := by
  have hg3 : w3.grownBy w4 v.ownBlock := ⟨hg.os, hg.tape, hg.output, Nat.le_trans (by simp) hg.size, fun i hi hne => (hg.block i (by simp; omega) hne).trans (Below.heap_alloc w3 o i hi)⟩
  refine Drawn.mk (l := l ++ [x]) (p := p) (by simp; omega) (by simpa using ho) (hr.grown hg3 fun k hk => Nat.lt_of_lt_of_le hlt (hv k hk)) hp (grown_new hg2 hg3 hv)

theorem kept_far {w w' : World} {base g : Nat} {v : Value} {n : Nat} {xs : List Value} (h : w.ownsRow base 3 1 v n xs) (hg : w.grownBy w' (some g)) (hlt : g < base) : w'.ownsRow base 3 1 v n xs := by
  refine h.kept hg ?_
  cases e : v.ownBlock with
  | none => left; rfl
  | some k => right; intro e2; injection e2 with e2; have := (h.lt k e).1; omega

end Go.Proofs.Ytimijinldhpmfaa
