/- Slices of slices of integers that read as lists of lists, and the laws' own helpers on them by their contracts. -/
import Derived.Test.YtimijinldhpmfaaOwn
import Derived.Test.YtimijinldhpmfaaSpec
import Derived.Test.YtimijinldhpmfaaFam
namespace Go.Proofs.Ytimijinldhpmfaa
open Go.RowKit

/-- The tape has moved, nothing else. -/
def Drew (w w' : World) : Prop := ∃ n, w' = w.drewN n
theorem Drew.refl (w : World) : Drew w w := ⟨0, rfl⟩
theorem Drew.more {w w' : World} (h : Drew w w') (n : Nat) : Drew w (w'.drewN n) := by
  obtain ⟨m, rfl⟩ := h
  exact ⟨_, World.drewN_drewN _ _ _⟩
theorem Drew.trans {a b c : World} (h : Drew a b) (k : Drew b c) : Drew a c := by
  obtain ⟨n, rfl⟩ := k
  exact h.more n
theorem Drew.below {w w' : World} (h : Drew w w') : Below w.heap.size w w' := by
  obtain ⟨n, rfl⟩ := h
  exact below_drewN (Below.refl _ _) n
theorem Drew.size {w w' : World} (h : Drew w w') : w'.heap.size = w.heap.size := by
  obtain ⟨n, rfl⟩ := h
  rfl

/-- The slice at A reads as the list F of lists of ints. -/
def ISS (w : World) (A : Option Addr) (F : List (List Int)) : Prop :=
  F = [] ∨ ∃ b off, A = some ⟨b, off, none⟩ ∧ b < w.heap.size ∧ ∀ j l, F[j]? = some l → ∃ B d, w.cell? ⟨b, off + j, none⟩ = some (.slice B l.length d) ∧ IL w B l
theorem ISS.at_ {w : World} {A : Option Addr} {F : List (List Int)} {k : Nat} (h : ISS w A F) (hk : k < F.length) :
    ∃ b off l B d, A = some ⟨b, off, none⟩ ∧ F[k]? = some l ∧ w.cell? ⟨b, off + k, none⟩ = some (.slice B l.length d) ∧ IL w B l := by
  rcases h with rfl | ⟨b, off, rfl, _, hc⟩
  · simp at hk
  · obtain ⟨B, d, h1, h2⟩ := hc k _ (List.getElem?_eq_getElem hk)
    exact ⟨b, off, F[k], B, d, rfl, List.getElem?_eq_getElem hk, h1, h2⟩
theorem ISS.below {w w' : World} {A : Option Addr} {F : List (List Int)} (h : ISS w A F) (hb : Below w.heap.size w w') : ISS w' A F := by
  rcases h with rfl | ⟨b, off, rfl, hlt, hc⟩
  · exact .inl rfl
  · refine .inr ⟨b, off, rfl, Nat.lt_of_lt_of_le hlt hb.size, fun j l hl => ?_⟩
    obtain ⟨B, d, h1, h2⟩ := hc j l hl
    exact ⟨B, d, (hb.cell (p := ⟨b, off + j, none⟩) hlt).trans h1, h2.below hb⟩
/-- No row is longer than n. -/
def Short (F : List (List Int)) (n : Nat) : Prop := ∀ l ∈ F, l.length ≤ n
theorem Short.at_ {F : List (List Int)} {n k : Nat} {l : List Int} (h : Short F n) (hl : F[k]? = some l) : l.length ≤ n := h l (List.mem_of_getElem? hl)

set_option maxRecDepth 100000 in
set_option maxHeartbeats 400000 in
theorem eqIntS_drew (A B : Option Addr) (c d : Nat) (l : List Int) (w : World) (ha : IL w A l) (hb : IL w B l) (hl : l.length ≤ 1048576) :
    Calls Try.prog 41 #[.slice A l.length c, .slice B l.length d] w fun e w' => e = .returned (.bool true) ∧ ∃ n, w' = w.drewN n := by
  go_enter Try.func41, Try.ntmps41
  go_wp2
  go_loopw [5] (fun i wr => ∃ k : Nat, k ≤ l.length ∧ i = .int .i64 k ∧ Drew w wr) (fun i _ => l.length - (intOf i).toNat)
  case atStart => exact ⟨0, Nat.zero_le _, rfl, Drew.refl _⟩
  case round =>
    obtain ⟨k, hk, rfl, hd⟩ := hrel
    by_cases hlt : k < l.length
    · obtain ⟨b, off, x, rfl, hx, hc⟩ := (ha.below hd.below).at_ hlt
      obtain ⟨b', off', x', rfl, hx', hc'⟩ := (hb.below hd.below).at_ hlt
      obtain rfl : x = x' := by rw [hx] at hx'; injection hx'
      clear hx hx'
      have hki : (0 : Int) ≤ (k : Int) := by omega
      have hki2 : (k : Int) < (l.length : Int) := by omega
      go_wp2
      go_quiet (fail)
      go_wp2
      go_roundw
      case rel => exact ⟨k + 1, by omega, by go_num, hd.more _⟩
      case measure => simp [intOf]; omega
    · go_wp2
      go_ret
      exact ⟨rfl, hd⟩

/-- How many numbers lie in the rows. -/
def wt (F : List (List Int)) : Nat := (F.map List.length).sum
theorem wt_take {F : List (List Int)} {k : Nat} {l : List Int} (h : F[k]? = some l) : wt (F.take (k + 1)) = wt (F.take k) + l.length := by
  simp [wt, List.take_add_one, h]
theorem wt_le (F : List (List Int)) (k : Nat) : wt (F.take k) ≤ wt F := by
  have h : wt F = wt (F.take k) + wt (F.drop k) := by
    unfold wt
    rw [← List.sum_append, ← List.map_append, List.take_append_drop]
  omega
theorem wt_short {F : List (List Int)} {n : Nat} (h : F.length + wt F ≤ n) : Short F n := by
  intro l hl
  obtain ⟨k, hk, e⟩ := List.getElem_of_mem hl
  have := wt_take (F := F) (k := k) (l := l) (by rw [List.getElem?_eq_getElem hk, e])
  have := wt_le F (k + 1)
  omega

/-- The size of an argument, or the sign that it is too large. -/
def szOf (F : List (List Int)) (q : Nat) : Int := if F.length + wt F ≤ q then ((q - (F.length + wt F) : Nat) : Int) else -1

/-- A row of the call's own, made when the heap had between lo and hi blocks. -/
def RowAt (w : World) (lo hi : Nat) (l : List Int) (v : Value) : Prop := ∃ A c, v = .slice A l.length c ∧ Own w lo hi A c l
def Asc (rs : List Value) : Prop := rs.Pairwise fun u v => ∀ g g', u.ownBlock = some g → v.ownBlock = some g' → g < g'
def Rws (w : World) (lo hi : Nat) (F : List (List Int)) (rs : List Value) : Prop :=
  rs.length = F.length ∧ (∀ (j : Nat) l v, F[j]? = some l → rs[j]? = some v → RowAt w lo hi l v) ∧ Asc rs
theorem Own.mono {w : World} {lo hi lo2 hi2 c : Nat} {A : Option Addr} {l : List Int} (h : Own w lo hi A c l) (h1 : lo2 ≤ lo) (h2 : hi ≤ hi2) (h3 : hi2 ≤ w.heap.size) : Own w lo2 hi2 A c l :=
  ⟨own_base h.1 h1, h3, fun g hg => ⟨Nat.le_trans h1 (h.2.2 g hg).1, Nat.lt_of_lt_of_le (h.2.2 g hg).2 h2⟩⟩
/-- A row stands where its block stands. -/
theorem own_at {w w' : World} {base : Nat} {e : TypeId} {size n : Nat} {v : Value} {xs : List Value} (h : w.ownsRow base e size v n xs) (hb : ∀ g, v.ownBlock = some g → w'.heap[g]? = w.heap[g]?) : w'.ownsRow base e size v n xs := by
  refine ⟨h.1, ?_⟩
  rcases h.2 with h0 | ⟨g, cap, cur, hv, h1, h2, h3⟩
  · exact .inl h0
  · exact .inr ⟨g, cap, cur, hv, h1, (hb g (by rw [hv]; rfl)).trans h2, h3⟩
theorem Own.at_ {w w' : World} {lo hi c : Nat} {A : Option Addr} {l : List Int} (h : Own w lo hi A c l) (hs : hi ≤ w'.heap.size) (hb : ∀ g, lo ≤ g → g < hi → (Value.slice A l.length c).ownBlock = some g → w'.heap[g]? = w.heap[g]?) : Own w' lo hi A c l :=
  ⟨own_at h.1 fun g hg => hb g (h.2.2 g hg).1 (h.2.2 g hg).2 hg, hs, h.2.2⟩
theorem Rws.nil (w : World) (lo hi : Nat) : Rws w lo hi [] [] := ⟨rfl, fun j l v h => by simp at h, List.Pairwise.nil⟩
theorem Rws.at_ {w w' : World} {lo hi : Nat} {F : List (List Int)} {rs : List Value} (h : Rws w lo hi F rs) (hs : hi ≤ w'.heap.size) (hb : ∀ g, lo ≤ g → g < hi → (∃ cur, w.heap[g]? = some (.cells cur 3 (0, 0))) → w'.heap[g]? = w.heap[g]?) : Rws w' lo hi F rs := by
  refine ⟨h.1, fun j l v hl hv => ?_, h.2.2⟩
  obtain ⟨A, c, rfl, ho⟩ := h.2.1 j l v hl hv
  refine ⟨A, c, rfl, ho.at_ hs fun g h1 h2 hg => hb g h1 h2 ?_⟩
  rcases ho.1.2 with ⟨h0, _⟩ | ⟨g', cap, cur, hv', _, h5, _⟩
  · rw [h0] at hg; cases hg
  · rw [hv'] at hg
    cases hg
    exact ⟨cur, h5⟩
theorem Rws.snoc {w : World} {lo hi lo2 hi2 : Nat} {F : List (List Int)} {rs : List Value} {l : List Int} {v : Value} (h : Rws w lo hi F rs) (k : RowAt w lo2 hi2 l v) (h1 : hi ≤ lo2) (h2 : lo ≤ lo2) (h3 : hi ≤ hi2) : Rws w lo hi2 (F ++ [l]) (rs ++ [v]) := by
  obtain ⟨A, c, rfl, ho⟩ := k
  refine ⟨by simp [h.1], fun j m u hm hu => ?_, ?_⟩
  · rcases Nat.lt_or_ge j F.length with hj | hj
    · rw [List.getElem?_append_left hj] at hm
      rw [List.getElem?_append_left (by rw [h.1]; exact hj)] at hu
      obtain ⟨A', c', rfl, ho'⟩ := h.2.1 j m u hm hu
      exact ⟨A', c', rfl, ho'.mono (Nat.le_refl _) h3 ho.2.1⟩
    · rw [List.getElem?_append_right hj] at hm
      rw [List.getElem?_append_right (by rw [h.1]; exact hj), h.1] at hu
      generalize j - F.length = i at *
      cases i with
      | succ i => simp at hm
      | zero =>
        simp at hm hu
        subst hm hu
        exact ⟨A, c, rfl, ho.mono h2 (Nat.le_refl _) ho.2.1⟩
  · refine List.pairwise_append.2 ⟨h.2.2, by simp, fun u hu u' hu' g g' hg hg' => ?_⟩
    simp at hu'
    subst hu'
    obtain ⟨j, hj, e⟩ := List.getElem_of_mem hu
    obtain ⟨A', c', e', ho'⟩ := h.2.1 j (F[j]'(by rw [← h.1]; exact hj)) u (List.getElem?_eq_getElem _) (by rw [List.getElem?_eq_getElem hj, e])
    subst e'
    have := (ho'.2.2 g hg).2
    have := (ho.2.2 g' hg').1
    omega
theorem Rws.iss {w : World} {lo hi base n c : Nat} {e : TypeId} {A : Option Addr} {F : List (List Int)} {rs xs : List Value} (h : Rws w lo hi F rs) (ho : w.ownsRow base e 1 (.slice A n c) n xs) (hx : ∀ (j : Nat) v, rs[j]? = some v → xs[j]? = some v) : ISS w A F := by
  rcases ho.2 with ⟨h0, h1⟩ | ⟨g, cap, cur, hv, hb, hg, _⟩
  · left
    subst h1
    have h2 := ho.1
    simp at h2
    subst h2
    rcases F with _ | ⟨l, F⟩
    · rfl
    · have hr := h.1
      rcases rs with _ | ⟨v, rs⟩
      · simp at hr
      · exact absurd (hx 0 v (by simp)) (by simp)
  · injection hv with hA hn hcc
    subst hA
    refine .inr ⟨g, 0, rfl, (Array.getElem?_eq_some_iff.1 hg).1, fun j l hl => ?_⟩
    have hj : j < rs.length := by rw [h.1]; exact (List.getElem?_eq_some_iff.1 hl).1
    obtain ⟨B, d, e', hoo⟩ := h.2.1 j l rs[j] hl (List.getElem?_eq_getElem hj)
    refine ⟨B, d, ?_, hoo.il⟩
    have := ho.cells (g := g) rfl j _ (hx j _ (List.getElem?_eq_getElem hj))
    rw [Addr.add_lit] at this
    rw [this, e']

/-- A slice of slices of the call's own, made when the heap had between lo and hi blocks. -/
def OSS (w : World) (lo hi : Nat) (A : Option Addr) (c : Nat) (F : List (List Int)) : Prop :=
  ∃ rs, w.ownsRow lo 35 1 (.slice A F.length c) F.length rs ∧ hi ≤ w.heap.size ∧ (∀ g, (Value.slice A F.length c).ownBlock = some g → lo ≤ g ∧ g < hi) ∧ Rws w lo hi F rs
theorem OSS.iss {w : World} {lo hi c : Nat} {A : Option Addr} {F : List (List Int)} (h : OSS w lo hi A c F) : ISS w A F := by
  obtain ⟨rs, ho, _, _, hr⟩ := h
  exact hr.iss ho fun _ _ h => h
/-- Blocks between lo and hi may have been written, no others. -/
structure Keep (lo hi : Nat) (w w' : World) : Prop where
  os : w'.os = w.os
  tape : w'.tape = w.tape
  output : w'.output = w.output
  size : w.heap.size ≤ w'.heap.size
  block : ∀ i, i < w.heap.size → ¬ (lo ≤ i ∧ i < hi) → w'.heap[i]? = w.heap[i]?
theorem Keep.refl (lo hi : Nat) (w : World) : Keep lo hi w w := ⟨rfl, rfl, rfl, Nat.le_refl _, fun _ _ _ => rfl⟩
theorem Keep.trans {lo hi : Nat} {a b c : World} (h : Keep lo hi a b) (k : Keep lo hi b c) : Keep lo hi a c :=
  ⟨k.os.trans h.os, k.tape.trans h.tape, k.output.trans h.output, Nat.le_trans h.size k.size, fun i hi hn => (k.block i (Nat.lt_of_lt_of_le hi h.size) hn).trans (h.block i hi hn)⟩
theorem Keep.of_below {w w' : World} (lo hi : Nat) (h : Below w.heap.size w w') : Keep lo hi w w' := ⟨h.os, h.tape, h.output, h.size, fun i hi _ => h.block i hi⟩
theorem Keep.of_grown {w w' : World} {row : Option Nat} {lo hi : Nat} (h : w.grownBy w' row) (hr : ∀ g, row = some g → lo ≤ g ∧ g < hi) : Keep lo hi w w' :=
  ⟨h.os, h.tape, h.output, h.size, fun i hi hn => h.block i hi fun e => hn (hr i e.symm)⟩
theorem OSS.keep {w w' : World} {lo hi lo2 hi2 c : Nat} {A : Option Addr} {F : List (List Int)} (h : OSS w lo hi A c F) (k : Keep lo2 hi2 w w') (hd : hi ≤ lo2 ∨ hi2 ≤ lo) : OSS w' lo hi A c F := by
  obtain ⟨rs, ho, hh, hb, hr⟩ := h
  exact ⟨rs, own_at ho fun g hg => k.block g (by have := hb g hg; omega) (by have := hb g hg; omega), Nat.le_trans hh k.size, hb, hr.at_ (Nat.le_trans hh k.size) fun g h1 h2 _ => k.block g (by omega) (by omega)⟩
theorem OSS.below {w w' : World} {lo hi c : Nat} {A : Option Addr} {F : List (List Int)} (h : OSS w lo hi A c F) (hb : Below w.heap.size w w') : OSS w' lo hi A c F := by
  have hh : hi ≤ w.heap.size := by obtain ⟨_, _, hh, _⟩ := h; exact hh
  exact h.keep (Keep.of_below w.heap.size w.heap.size hb) (.inl hh)
theorem below_keep {a w w' : World} {lo hi : Nat} (h : Below a.heap.size a w) (k : Keep lo hi w w') (hl : a.heap.size ≤ lo) : Below a.heap.size a w' :=
  ⟨k.os.trans h.os, k.tape.trans h.tape, k.output.trans h.output, Nat.le_trans h.size k.size, fun i hi => (k.block i (Nat.lt_of_lt_of_le hi h.size) (by omega)).trans (h.block i hi)⟩
theorem OSS.hi_le {w : World} {lo hi c : Nat} {A : Option Addr} {F : List (List Int)} (h : OSS w lo hi A c F) : hi ≤ w.heap.size := by obtain ⟨_, _, hh, _⟩ := h; exact hh
end Go.Proofs.Ytimijinldhpmfaa
