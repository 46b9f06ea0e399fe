/- Slices of integers that read as lists, and the laws' own helpers (copies, comparison, marks) by their contracts. -/
import Derived.Test.YtimijinldhpmfaaProg
import Derived.Test.YtimijinldhpmfaaMath
import Derived.WalkKit
import Derived.Deep.QuietTactic
import Derived.BigQuiet
import Derived.Lib.Hide
import Derived.WalkSpells
import Derived.WalkLawsBesides
namespace Go.Proofs.Ytimijinldhpmfaa
open Go.RowKit

/-- The slice at A reads as the list l of ints (nil or not). -/
def IL (w : World) (A : Option Addr) (l : List Int) : Prop :=
  l = [] ∨ ∃ b off, A = some ⟨b, off, none⟩ ∧ b < w.heap.size ∧ ∀ j x, l[j]? = some x → w.cell? ⟨b, off + j, none⟩ = some (.int .i64 x)

theorem IL.at_ {w : World} {A : Option Addr} {l : List Int} {k : Nat} (h : IL w A l) (hk : k < l.length) :
    ∃ b off x, A = some ⟨b, off, none⟩ ∧ l[k]? = some x ∧ w.cell? ⟨b, off + k, none⟩ = some (.int .i64 x) := by
  rcases h with rfl | ⟨b, off, rfl, _, hc⟩
  · simp at hk
  · exact ⟨b, off, l[k], rfl, List.getElem?_eq_getElem hk, hc k _ (List.getElem?_eq_getElem hk)⟩
theorem IL.below {w w' : World} {A : Option Addr} {l : List Int} (h : IL w A l) (hb : Below w.heap.size w w') : IL w' A l := by
  rcases h with rfl | ⟨b, off, rfl, hlt, hc⟩
  · exact .inl rfl
  · exact .inr ⟨b, off, rfl, Nat.lt_of_lt_of_le hlt hb.size, fun j x hx => (hb.cell (p := ⟨b, off + j, none⟩) hlt).trans (hc j x hx)⟩
theorem below_drewN {B : Nat} {a w : World} (h : Below B a w) (n : Nat) : Below B a (w.drewN n) := ⟨h.os, h.tape, h.output, h.size, h.block⟩
/-- What is laid from the first block of a later world on leaves the earlier world alone. -/
theorem below_step {a b c : World} (h : Below a.heap.size a b) (k : Below b.heap.size b c) : Below a.heap.size a c := h.trans (k.mono h.size)
/-- Every value of the call's own row reads as the list. -/
theorem IL.of_own {w : World} {base : Nat} {A : Option Addr} {n c : Nat} {l : List Int} (h : w.ownsRow base 3 1 (.slice A n c) n (l.map (Value.int .i64))) : IL w A l ∧ n = l.length := by
  have hn : n = l.length := by have := h.1; simp at this; omega
  refine ⟨?_, hn⟩
  rcases h.2 with ⟨_, h0⟩ | ⟨g, cap, cur, hv, hb, hg, _, _, _, ht⟩
  · left; exact List.eq_nil_of_length_eq_zero (by omega)
  · right
    injection hv with hA
    subst hA
    refine ⟨g, 0, rfl, (Array.getElem?_eq_some_iff.1 hg).1, fun j x hx => ?_⟩
    have := h.cells (g := g) rfl j (.int .i64 x) (by simp [hx])
    rw [Addr.add_lit] at this
    exact this

/-- An argument that came in, as the row's opening gives it. -/
theorem il_of_row {w : World} {a : Option Addr} {len cap : Nat} {zs : List Int}
    (h : (a = none ∧ len = 0 ∧ cap = 0 ∧ zs = []) ∨ ∃ x, a = some x ∧ len ≤ cap ∧ cap ≤ maxLen ∧ zs.length = cap ∧ (∀ i, i < zs.length → w.cell? (x.add i) = some (.int .i64 (zs.getD i 0))) ∧ ∀ n ∈ zs, (Lit.int .i64 n).wf = true) :
    ∃ l : List Int, l.length = len ∧ len ≤ maxLen ∧ IL w a l := by
  rcases h with ⟨rfl, rfl, _, _⟩ | ⟨x, rfl, hl, hm, hz, hc, _⟩
  · exact ⟨[], rfl, by unfold maxLen; omega, .inl rfl⟩
  · refine ⟨zs.take len, by simp; omega, Nat.le_trans hl hm, ?_⟩
    rcases Nat.eq_zero_or_pos len with h0 | h0
    · subst h0; left; simp
    · right
      obtain ⟨b, off, spot⟩ := x
      have hspot : spot = none := by simpa [Addr.add] using World.cell?_spot (hc 0 (by omega))
      subst hspot
      refine ⟨b, off, rfl, World.block_lt_of_cell? w _ (hc 0 (by omega)), fun j x hx => ?_⟩
      obtain ⟨hj, hx⟩ := List.getElem?_eq_some_iff.1 hx
      simp at hj hx
      have := hc j (by omega)
      rw [Addr.add_lit] at this
      rw [this]
      have : zs.getD j 0 = x := by rw [← hx]; simp [List.getD, show j < zs.length by omega]
      rw [this]

theorem int_info : (Try.prog.info? 3).map (fun i => (i.zero, i.size, i.bytes)) = some (some (.int .i64 0), 1, 8) := by kernel_rfl

set_option maxRecDepth 100000 in
set_option maxHeartbeats 400000 in
/-- Two slices that read as one list are equal. -/
theorem eqIntS_yes (A B : Option Addr) (c d : Nat) (l : List Int) (w : World) (ha : IL w A l) (hb : IL w B l) (hl : l.length ≤ 1048576) :
    Calls Try.prog 41 #[.slice A l.length c, .slice B l.length d] w fun e w' => e = .returned (.bool true) ∧ Below w.heap.size w w' := by
  go_enter Try.func41, Try.ntmps41
  go_wp2
  go_loopw [5] (fun i wr => ∃ k : Nat, k ≤ l.length ∧ i = .int .i64 k ∧ Below w.heap.size w wr) (fun i _ => l.length - (intOf i).toNat)
  case atStart => exact ⟨0, Nat.zero_le _, rfl, Below.refl _ _⟩
  case round =>
    obtain ⟨k, hk, rfl, hbel⟩ := hrel
    by_cases hlt : k < l.length
    · obtain ⟨b, off, x, rfl, hx, hc⟩ := (ha.below hbel).at_ hlt
      obtain ⟨b', off', x', rfl, hx', hc'⟩ := (hb.below hbel).at_ hlt
      obtain rfl : x = x' := by rw [hx] at hx'; injection hx'
      clear hx hx'
      have hki : (0 : Int) ≤ (k : Int) := by omega
      have hki2 : (k : Int) < (l.length : Int) := by omega
      go_wp2
      go_quiet (fail)
      go_wp2
      go_roundw
      case rel => exact ⟨k + 1, by omega, by go_num, below_drewN hbel _⟩
      case measure => simp [intOf]; omega
    · go_wp2
      go_ret
      exact ⟨rfl, hbel⟩

/-- The first k elements copied, zeros behind. -/
def fill (l : List Int) (k : Nat) : List Value := (l.take k).map (Value.int .i64) ++ List.replicate (l.length - k) (.int .i64 0)
theorem fill_set {l : List Int} {k : Nat} {x : Int} (h : l[k]? = some x) : (fill l k).set k (.int .i64 x) = fill l (k + 1) := by
  have hk : k < l.length := (List.getElem?_eq_some_iff.1 h).1
  unfold fill
  rw [show l.length - k = (l.length - (k + 1)) + 1 by omega, List.replicate_succ, List.set_append_right _ _ (by simp; omega)]
  simp [Nat.min_eq_left (Nat.le_of_lt hk), List.take_add_one, h]
theorem fill_all (l : List Int) : fill l l.length = l.map (Value.int .i64) := by simp [fill]
theorem fill_none (l : List Int) : (madeCells #[Value.int .i64 0] l.length).toList = fill l 0 := by
  simp [fill, madeCells]
  apply List.ext_getElem
  · simp
  · intro i h1 h2; simp [Nat.mod_one]
/-- The row behind a store, the world known by what is below alone. -/
theorem own_store {w wr : World} {g n cap : Nat} {xs : List Value} (h : wr.ownsRow w.heap.size 3 1 (.slice (some ⟨g, 0, none⟩) n cap) n xs) (hb : Below w.heap.size w wr) (hg : w.heap.size ≤ g) (j : Nat) (u : Value) :
    (wr.setCell ⟨g, j, none⟩ u).ownsRow w.heap.size 3 1 (.slice (some ⟨g, 0, none⟩) n cap) n (xs.set j u) ∧ Below w.heap.size w (wr.setCell ⟨g, j, none⟩ u) :=
  ⟨(h.stored j u).1, hb.setCell hg u⟩

theorem own_form {w : World} {base : Nat} {e : TypeId} {size n c : Nat} {A : Option Addr} {xs : List Value} (h : w.ownsRow base e size (.slice A n c) n xs) (hn : 0 < n) :
    ∃ g, A = some ⟨g, 0, none⟩ ∧ base ≤ g ∧ g < w.heap.size := by
  rcases h.2 with ⟨_, h0⟩ | ⟨g, cap, cur, hv, hb, hg, _⟩
  · omega
  · injection hv with hA
    exact ⟨g, hA, hb, (Array.getElem?_eq_some_iff.1 hg).1⟩
/-- The marks k, k + 1, .. -/
def marks (k n : Nat) : List Int := (List.range n).map fun i => ((k + i : Nat) : Int)
theorem marks_len (k n : Nat) : (marks k n).length = n := by simp [marks]
theorem marks_at (k n j : Nat) (h : j < n) : (marks k n)[j]? = some ((k + j : Nat) : Int) := by simp [marks, h]
def mrk (l : List Int) (k j : Nat) : List Value := (marks k j ++ l.drop j).map (Value.int .i64)
theorem mrk_set (l : List Int) (k j : Nat) (h : j < l.length) : (mrk l k j).set j (.int .i64 ((k + j : Nat) : Int)) = mrk l k (j + 1) := by
  unfold mrk
  rw [List.drop_eq_getElem_cons h, List.map_append, List.map_cons, List.set_append_right _ _ (by simp [marks_len])]
  simp [marks, List.range_succ]
theorem mrk_none (l : List Int) (k : Nat) : mrk l k 0 = l.map (Value.int .i64) := by simp [mrk, marks]
theorem mrk_all (l : List Int) (k n : Nat) (h : n = l.length) : mrk l k n = (marks k n).map (Value.int .i64) := by subst h; simp [mrk]

theorem grown_store {w wr : World} {g : Nat} (h : w.grownBy wr (some g)) (j : Nat) (u : Value) : w.grownBy (wr.setCell ⟨g, j, none⟩ u) (some g) :=
  ⟨h.os, h.tape, h.output, by simpa [World.setCell] using h.size, fun i hi hne => (Below.heap_setCell wr ⟨g, j, none⟩ u i (by rintro rfl; exact hne rfl)).trans (h.block i hi hne)⟩

set_option maxRecDepth 100000 in
set_option maxHeartbeats 400000 in
/-- Marks are written into a row of the call's own, and nowhere else. -/
theorem markIntS_own (base : Nat) (A : Option Addr) (c : Nat) (l : List Int) (k : Nat) (w : World) (ha : w.ownsRow base 3 1 (.slice A l.length c) l.length (l.map (Value.int .i64))) (hl : l.length ≤ 1048576) (hk : k ≤ 1073741824) :
    Calls Try.prog 42 #[.slice A l.length c, .int .i64 k] w fun e w' =>
      e = .returned (.int .i64 (k + l.length : Nat)) ∧ w'.ownsRow base 3 1 (.slice A l.length c) l.length ((marks k l.length).map (Value.int .i64)) ∧ w.grownBy w' (Value.slice A l.length c).ownBlock := by
  go_enter Try.func42, Try.ntmps42
  go_wp2
  go_loopw [1, 5] (fun q i wr => ∃ j : Nat, j ≤ l.length ∧ i = .int .i64 j ∧ q = .int .i64 (k + j : Nat) ∧ wr.ownsRow base 3 1 (.slice A l.length c) l.length (mrk l k j) ∧ w.grownBy wr (Value.slice A l.length c).ownBlock) (fun _ i _ => l.length - (intOf i).toNat)
  case atStart => exact ⟨0, Nat.zero_le _, rfl, rfl, by rw [mrk_none]; exact ha, World.grownBy.refl _ _⟩
  case round =>
    obtain ⟨j, hj, rfl, rfl, hown, hgr⟩ := hrel
    by_cases hlt : j < l.length
    · obtain ⟨g, rfl, hbg, hg⟩ := own_form hown (by omega)
      have hc2 : ∃ u, wr.cell? ⟨g, j, none⟩ = some u := ⟨_, (hown.cellAt j (by omega)).trans (List.getElem?_eq_getElem (by have := hown.1; omega))⟩
      obtain ⟨u, hu⟩ := hc2
      have hfr := hown.frozenAt j
      have R := Lib.hid (And.intro (hown.stored j (.int .i64 ((k + j : Nat) : Int))).1 (grown_store hgr j (.int .i64 ((k + j : Nat) : Int))))
      clear hown hgr
      go_wp2
      go_roundw
      case rel => exact ⟨j + 1, by omega, by go_num, by go_num, by rw [← mrk_set l k j hlt]; exact R.out.1, R.out.2⟩
      case measure => simp [intOf]; omega
    · have hkl : j = l.length := by omega
      subst hkl
      rw [mrk_all l k _ rfl] at hown
      have HR := Lib.hid (And.intro hown hgr)
      clear hown hgr
      go_wp2
      go_ret
      exact ⟨rfl, HR.out⟩

set_option maxRecDepth 100000 in
set_option maxHeartbeats 400000 in
/-- A row of marks is found as it was written. -/
theorem heldIntS_any (A : Option Addr) (c : Nat) (k n : Nat) (w : World) (ha : IL w A (marks k n)) (hl : n ≤ 1048576) (hk : k ≤ 1073741824) :
    Calls Try.prog 43 #[.slice A n c, .int .i64 k] w fun e w' => e = .returned (.int .i64 (k + n : Nat)) ∧ w = w' := by
  go_enter Try.func43, Try.ntmps43
  go_wp2
  go_loop [1, 5] (fun q i => ∃ j : Nat, j ≤ n ∧ i = .int .i64 j ∧ q = .int .i64 (k + j : Nat)) (fun _ i => n - (intOf i).toNat)
  case atStart => exact ⟨0, Nat.zero_le _, rfl, rfl⟩
  case round =>
    obtain ⟨j, hj, rfl, rfl⟩ := hrel
    by_cases hlt : j < n
    · obtain ⟨b, off, x, rfl, hx, hc⟩ := ha.at_ (by rw [marks_len]; exact hlt)
      rw [marks_at k n j hlt] at hx
      obtain rfl := Option.some.inj hx
      clear hx
      go_wp2
      go_round
      case rel => exact ⟨j + 1, by omega, by go_num, by go_num⟩
      case measure => simp [intOf]; omega
    · have hkl : j = n := by omega
      subst hkl
      go_wp2
      go_ret
      exact ⟨rfl, rfl⟩

end Go.Proofs.Ytimijinldhpmfaa
