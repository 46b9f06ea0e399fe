/- Slices of integers that read as lists, and the laws' own helpers (copies, comparison, marks) by their contracts. -/
import Derived.Test.YtbkdhjmfphhhoaaProg
import Derived.Test.YtbkdhjmfphhhoaaGa
import Derived.WalkKit
import Derived.Deep.QuietTactic
import Derived.BigQuiet
import Derived.Lib.Hide
import Derived.WalkSpells
import Derived.WalkLawsBesides
import Derived.Deep.Matrix
namespace Go.Proofs.Ytbkdhjmfphhhoaa
open Go.RowKit

/-- The slice at A reads as the list l of ints (nil or not). -/
def IL (w : World) (A : Option Addr) (l : List Int) : Prop :=
  l = [] ∨ ∃ b off, A = some ⟨b, off, none⟩ ∧ b < w.heap.size ∧ ∀ j x, l[j]? = some x → w.cell? ⟨b, off + j, none⟩ = some (.int .i64 x)

theorem IL.at_ {w : World} {A : Option Addr} {l : List Int} {k : Nat} (h : IL w A l) (hk : k < l.length) :
    ∃ b off x, A = some ⟨b, off, none⟩ ∧ l[k]? = some x ∧ w.cell? ⟨b, off + k, none⟩ = some (.int .i64 x) := by
  rcases h with rfl | ⟨b, off, rfl, _, hc⟩
  · simp at hk
  · exact ⟨b, off, l[k], rfl, List.getElem?_eq_getElem hk, hc k _ (List.getElem?_eq_getElem hk)⟩
theorem IL.below {w w' : World} {A : Option Addr} {l : List Int} (h : IL w A l) (hb : Below w.heap.size w w') : IL w' A l := by
  rcases h with rfl | ⟨b, off, rfl, hlt, hc⟩
  · exact .inl rfl
  · exact .inr ⟨b, off, rfl, Nat.lt_of_lt_of_le hlt hb.size, fun j x hx => (hb.cell (p := ⟨b, off + j, none⟩) hlt).trans (hc j x hx)⟩
theorem below_drewN {B : Nat} {a w : World} (h : Below B a w) (n : Nat) : Below B a (w.drewN n) := ⟨h.os, h.tape, h.output, h.size, h.block⟩
/-- What is laid from the first block of a later world on leaves the earlier world alone. -/
theorem below_step {a b c : World} (h : Below a.heap.size a b) (k : Below b.heap.size b c) : Below a.heap.size a c := h.trans (k.mono h.size)
/-- Every value of the call's own row reads as the list. -/
theorem IL.of_own {w : World} {base : Nat} {A : Option Addr} {n c : Nat} {l : List Int} (h : w.ownsRow base 3 1 (.slice A n c) n (l.map (Value.int .i64))) : IL w A l ∧ n = l.length := by
  have hn : n = l.length := by have := h.1; simp at this; omega
  refine ⟨?_, hn⟩
  rcases h.2 with ⟨_, h0⟩ | ⟨g, cap, cur, hv, hb, hg, _, _, _, ht⟩
  · left; exact List.eq_nil_of_length_eq_zero (by omega)
  · right
    injection hv with hA
    subst hA
    refine ⟨g, 0, rfl, (Array.getElem?_eq_some_iff.1 hg).1, fun j x hx => ?_⟩
    have := h.cells (g := g) rfl j (.int .i64 x) (by simp [hx])
    rw [Addr.add_lit] at this
    exact this

/-- An argument that came in, as the row's opening gives it. -/
theorem il_of_row {w : World} {a : Option Addr} {len cap : Nat} {zs : List Int}
    (h : (a = none ∧ len = 0 ∧ cap = 0 ∧ zs = []) ∨ ∃ x, a = some x ∧ len ≤ cap ∧ cap ≤ maxLen ∧ zs.length = cap ∧ (∀ i, i < zs.length → w.cell? (x.add i) = some (.int .i64 (zs.getD i 0))) ∧ ∀ n ∈ zs, (Lit.int .i64 n).wf = true) :
    ∃ l : List Int, l.length = len ∧ len ≤ maxLen ∧ IL w a l := by
  rcases h with ⟨rfl, rfl, _, _⟩ | ⟨x, rfl, hl, hm, hz, hc, _⟩
  · exact ⟨[], rfl, by unfold maxLen; omega, .inl rfl⟩
  · refine ⟨zs.take len, by simp; omega, Nat.le_trans hl hm, ?_⟩
    rcases Nat.eq_zero_or_pos len with h0 | h0
    · subst h0; left; simp
    · right
      obtain ⟨b, off, spot⟩ := x
      have hspot : spot = none := by simpa [Addr.add] using World.cell?_spot (hc 0 (by omega))
      subst hspot
      refine ⟨b, off, rfl, World.block_lt_of_cell? w _ (hc 0 (by omega)), fun j x hx => ?_⟩
      obtain ⟨hj, hx⟩ := List.getElem?_eq_some_iff.1 hx
      simp at hj hx
      have := hc j (by omega)
      rw [Addr.add_lit] at this
      rw [this]
      have : zs.getD j 0 = x := by rw [← hx]; simp [List.getD, show j < zs.length by omega]
      rw [this]

theorem int_info : (Try.prog.info? 3).map (fun i => (i.zero, i.size, i.bytes)) = some (some (.int .i64 0), 1, 8) := by kernel_rfl

set_option maxRecDepth 100000 in
set_option maxHeartbeats 400000 in
/-- Two slices that read as one list are equal. -/
theorem eqIntS_yes (A B : Option Addr) (c d : Nat) (l : List Int) (w : World) (ha : IL w A l) (hb : IL w B l) (hl : l.length ≤ 1048576) :
    Calls Try.prog 45 #[.slice A l.length c, .slice B l.length d] w fun e w' => e = .returned (.bool true) ∧ Below w.heap.size w w' := by
  go_enter Try.func45, Try.ntmps45
  go_wp2
  go_loopw [5] (fun i wr => ∃ k : Nat, k ≤ l.length ∧ i = .int .i64 k ∧ Below w.heap.size w wr) (fun i _ => l.length - (intOf i).toNat)
  case atStart => exact ⟨0, Nat.zero_le _, rfl, Below.refl _ _⟩
  case round =>
    obtain ⟨k, hk, rfl, hbel⟩ := hrel
    by_cases hlt : k < l.length
    · obtain ⟨b, off, x, rfl, hx, hc⟩ := (ha.below hbel).at_ hlt
      obtain ⟨b', off', x', rfl, hx', hc'⟩ := (hb.below hbel).at_ hlt
      obtain rfl : x = x' := by rw [hx] at hx'; injection hx'
      clear hx hx'
      have hki : (0 : Int) ≤ (k : Int) := by omega
      have hki2 : (k : Int) < (l.length : Int) := by omega
      go_wp2
      go_quiet (fail)
      go_wp2
      go_roundw
      case rel => exact ⟨k + 1, by omega, by go_num, below_drewN hbel _⟩
      case measure => simp [intOf]; omega
    · go_wp2
      go_ret
      exact ⟨rfl, hbel⟩

/-- The first k elements copied, zeros behind. -/
def fill (l : List Int) (k : Nat) : List Value := (l.take k).map (Value.int .i64) ++ List.replicate (l.length - k) (.int .i64 0)
theorem fill_set {l : List Int} {k : Nat} {x : Int} (h : l[k]? = some x) : (fill l k).set k (.int .i64 x) = fill l (k + 1) := by
  have hk : k < l.length := (List.getElem?_eq_some_iff.1 h).1
  unfold fill
  rw [show l.length - k = (l.length - (k + 1)) + 1 by omega, List.replicate_succ, List.set_append_right _ _ (by simp; omega)]
  simp [Nat.min_eq_left (Nat.le_of_lt hk), List.take_add_one, h]
theorem fill_all (l : List Int) : fill l l.length = l.map (Value.int .i64) := by simp [fill]
theorem fill_none (l : List Int) : (madeCells #[Value.int .i64 0] l.length).toList = fill l 0 := by
  simp [fill, madeCells]
  apply List.ext_getElem
  · simp
  · intro i h1 h2; simp [Nat.mod_one]
/-- The row behind a store, the world known by what is below alone. -/
theorem own_store {w wr : World} {g n cap : Nat} {xs : List Value} (h : wr.ownsRow w.heap.size 3 1 (.slice (some ⟨g, 0, none⟩) n cap) n xs) (hb : Below w.heap.size w wr) (hg : w.heap.size ≤ g) (j : Nat) (u : Value) :
    (wr.setCell ⟨g, j, none⟩ u).ownsRow w.heap.size 3 1 (.slice (some ⟨g, 0, none⟩) n cap) n (xs.set j u) ∧ Below w.heap.size w (wr.setCell ⟨g, j, none⟩ u) :=
  ⟨(h.stored j u).1, hb.setCell hg u⟩

set_option maxRecDepth 100000 in
set_option maxHeartbeats 400000 in
/-- A copy: the same numbers in new memory. -/
theorem toIntS_any (A : Option Addr) (c : Nat) (l : List Int) (w : World) (ha : IL w A l) (hl : l.length ≤ 1048576) :
    Calls Try.prog 44 #[.slice A l.length c] w fun e w' =>
      ∃ g, e = .returned (.slice (some ⟨g, 0, none⟩) l.length l.length) ∧ w'.ownsRow w.heap.size 3 1 (.slice (some ⟨g, 0, none⟩) l.length l.length) l.length (l.map (Value.int .i64)) ∧ Below w.heap.size w w' := by
  obtain ⟨i0, hi0, hz0, hz1, hz2⟩ := info_parts int_info
  go_enter Try.func44, Try.ntmps44
  go_wp2_with (at_make; refine wpList_make_full _ rfl (.tmp 6) (.tmp 6) 37 rfl w.heap.size 3 i0 (.int .i64 0) 1 Try.underlying37 hi0 hz0 hz1 .i64 .i64 _ _ l.length rfl rfl rfl rfl (by rw [hz2]; omega) (by unfold maxLen; omega) (Nat.le_refl _) ?_)
  intro w1 hown hgrow
  rw [fill_none] at hown
  have hb1 : Below w.heap.size w w1 := (Below.refl _ _).grown hgrow (Nat.le_refl _) (by simp)
  clear hgrow
  go_wp2
  go_loopw [4] (fun i wr => ∃ k : Nat, k ≤ l.length ∧ i = .int .i64 k ∧ wr.ownsRow w.heap.size 3 1 (.slice (some ⟨w.heap.size, 0, none⟩) l.length l.length) l.length (fill l k) ∧ Below w.heap.size w wr) (fun i _ => l.length - (intOf i).toNat)
  case atStart => exact ⟨0, Nat.zero_le _, rfl, hown, hb1⟩
  case round =>
    clear hown hb1
    obtain ⟨k, hk, rfl, hown, hbel⟩ := hrel
    by_cases hlt : k < l.length
    · obtain ⟨b, off, x, rfl, hx, hc⟩ := (ha.below hbel).at_ hlt
      have HX := Lib.hid hx
      clear hx
      have hc2 : ∃ u, wr.cell? ⟨w.heap.size, k, none⟩ = some u := ⟨_, (hown.cellAt k (by omega)).trans (List.getElem?_eq_getElem (by have := hown.1; omega))⟩
      obtain ⟨u, hu⟩ := hc2
      have hfr := hown.frozenAt k
      have R := own_store hown hbel (Nat.le_refl _) k (.int .i64 x)
      have HR := Lib.hid R
      clear R hown
      go_wp2
      go_roundw
      case rel => exact ⟨k + 1, by omega, by go_num, by rw [← fill_set HX.out]; exact HR.out.1, HR.out.2⟩
      case measure => simp [intOf]; omega
    · have hkl : k = l.length := by omega
      subst hkl
      rw [fill_all] at hown
      have HR := Lib.hid hown
      clear hown
      go_wp2
      go_ret
      exact ⟨_, rfl, HR.out, hbel⟩

theorem own_form {w : World} {base : Nat} {e : TypeId} {size n c : Nat} {A : Option Addr} {xs : List Value} (h : w.ownsRow base e size (.slice A n c) n xs) (hn : 0 < n) :
    ∃ g, A = some ⟨g, 0, none⟩ ∧ base ≤ g ∧ g < w.heap.size := by
  rcases h.2 with ⟨_, h0⟩ | ⟨g, cap, cur, hv, hb, hg, _⟩
  · omega
  · injection hv with hA
    exact ⟨g, hA, hb, (Array.getElem?_eq_some_iff.1 hg).1⟩
/-- The marks k, k + 1, .. -/
def marks (k n : Nat) : List Int := (List.range n).map fun i => ((k + i : Nat) : Int)
theorem marks_len (k n : Nat) : (marks k n).length = n := by simp [marks]
theorem marks_at (k n j : Nat) (h : j < n) : (marks k n)[j]? = some ((k + j : Nat) : Int) := by simp [marks, h]
def mrk (l : List Int) (k j : Nat) : List Value := (marks k j ++ l.drop j).map (Value.int .i64)
theorem mrk_set (l : List Int) (k j : Nat) (h : j < l.length) : (mrk l k j).set j (.int .i64 ((k + j : Nat) : Int)) = mrk l k (j + 1) := by
  unfold mrk
  rw [List.drop_eq_getElem_cons h, List.map_append, List.map_cons, List.set_append_right _ _ (by simp [marks_len])]
  simp [marks, List.range_succ]
theorem mrk_none (l : List Int) (k : Nat) : mrk l k 0 = l.map (Value.int .i64) := by simp [mrk, marks]
theorem mrk_all (l : List Int) (k n : Nat) (h : n = l.length) : mrk l k n = (marks k n).map (Value.int .i64) := by subst h; simp [mrk]

theorem grown_store {w wr : World} {g : Nat} (h : w.grownBy wr (some g)) (j : Nat) (u : Value) : w.grownBy (wr.setCell ⟨g, j, none⟩ u) (some g) :=
  ⟨h.os, h.tape, h.output, by simpa [World.setCell] using h.size, fun i hi hne => (Below.heap_setCell wr ⟨g, j, none⟩ u i (by rintro rfl; exact hne rfl)).trans (h.block i hi hne)⟩

set_option maxRecDepth 100000 in
set_option maxHeartbeats 400000 in
/-- Marks are written into a row of the call's own, and nowhere else. -/
theorem markIntS_own (base : Nat) (A : Option Addr) (c : Nat) (l : List Int) (k : Nat) (w : World) (ha : w.ownsRow base 3 1 (.slice A l.length c) l.length (l.map (Value.int .i64))) (hl : l.length ≤ 1048576) (hk : k ≤ 1073741824) :
    Calls Try.prog 46 #[.slice A l.length c, .int .i64 k] w fun e w' =>
      e = .returned (.int .i64 (k + l.length : Nat)) ∧ w'.ownsRow base 3 1 (.slice A l.length c) l.length ((marks k l.length).map (Value.int .i64)) ∧ w.grownBy w' (Value.slice A l.length c).ownBlock := by
  go_enter Try.func46, Try.ntmps46
  go_wp2
  go_loopw [1, 5] (fun q i wr => ∃ j : Nat, j ≤ l.length ∧ i = .int .i64 j ∧ q = .int .i64 (k + j : Nat) ∧ wr.ownsRow base 3 1 (.slice A l.length c) l.length (mrk l k j) ∧ w.grownBy wr (Value.slice A l.length c).ownBlock) (fun _ i _ => l.length - (intOf i).toNat)
  case atStart => exact ⟨0, Nat.zero_le _, rfl, rfl, by rw [mrk_none]; exact ha, World.grownBy.refl _ _⟩
  case round =>
    obtain ⟨j, hj, rfl, rfl, hown, hgr⟩ := hrel
    by_cases hlt : j < l.length
    · obtain ⟨g, rfl, hbg, hg⟩ := own_form hown (by omega)
      have hc2 : ∃ u, wr.cell? ⟨g, j, none⟩ = some u := ⟨_, (hown.cellAt j (by omega)).trans (List.getElem?_eq_getElem (by have := hown.1; omega))⟩
      obtain ⟨u, hu⟩ := hc2
      have hfr := hown.frozenAt j
      have R := Lib.hid (And.intro (hown.stored j (.int .i64 ((k + j : Nat) : Int))).1 (grown_store hgr j (.int .i64 ((k + j : Nat) : Int))))
      clear hown hgr
      go_wp2
      go_roundw
      case rel => exact ⟨j + 1, by omega, by go_num, by go_num, by rw [← mrk_set l k j hlt]; exact R.out.1, R.out.2⟩
      case measure => simp [intOf]; omega
    · have hkl : j = l.length := by omega
      subst hkl
      rw [mrk_all l k _ rfl] at hown
      have HR := Lib.hid (And.intro hown hgr)
      clear hown hgr
      go_wp2
      go_ret
      exact ⟨rfl, HR.out⟩

set_option maxRecDepth 100000 in
set_option maxHeartbeats 400000 in
/-- A row of marks is found as it was written. -/
theorem heldIntS_any (A : Option Addr) (c : Nat) (k n : Nat) (w : World) (ha : IL w A (marks k n)) (hl : n ≤ 1048576) (hk : k ≤ 1073741824) :
    Calls Try.prog 48 #[.slice A n c, .int .i64 k] w fun e w' => e = .returned (.int .i64 (k + n : Nat)) ∧ w = w' := by
  go_enter Try.func48, Try.ntmps48
  go_wp2
  go_loop [1, 5] (fun q i => ∃ j : Nat, j ≤ n ∧ i = .int .i64 j ∧ q = .int .i64 (k + j : Nat)) (fun _ i => n - (intOf i).toNat)
  case atStart => exact ⟨0, Nat.zero_le _, rfl, rfl⟩
  case round =>
    obtain ⟨j, hj, rfl, rfl⟩ := hrel
    by_cases hlt : j < n
    · obtain ⟨b, off, x, rfl, hx, hc⟩ := ha.at_ (by rw [marks_len]; exact hlt)
      rw [marks_at k n j hlt] at hx
      obtain rfl := Option.some.inj hx
      clear hx
      go_wp2
      go_round
      case rel => exact ⟨j + 1, by omega, by go_num, by go_num⟩
      case measure => simp [intOf]; omega
    · have hkl : j = n := by omega
      subst hkl
      go_wp2
      go_ret
      exact ⟨rfl, rfl⟩

end Go.Proofs.Ytbkdhjmfphhhoaa

/- The bit sets of the program by their contracts. -/
namespace Go.Proofs.Ytbkdhjmfphhhoaa
open Go.RowKit

theorem or_u8 {s : Nat} {x : Int} (hs : s < 64) (h1 : 1 ≤ x) (h2 : x ≤ 6) : bits .or .u8 (s : Int) (2 ^ (x.toNat - 1) % 256) = ((s ||| 2 ^ (x.toNat - 1) : Nat) : Int) ∧ (s ||| 2 ^ (x.toNat - 1)) < 64 := by
  have H : ∀ s : Fin 64, ∀ n : Fin 6, bits .or .u8 (s.val : Int) (2 ^ n.val % 256) = ((s.val ||| 2 ^ n.val : Nat) : Int) ∧ (s.val ||| 2 ^ n.val) < 64 := by decide +kernel
  exact H ⟨s, hs⟩ ⟨x.toNat - 1, by omega⟩
theorem and_u8 {s : Nat} {x : Int} (hs : s < 64) (h1 : 1 ≤ x) (h2 : x ≤ 6) : (bits .and .u8 ((s : Int) / 2 ^ (x.toNat - 1)) 1 == 1) = Nat.testBit s (x.toNat - 1) := by
  have H : ∀ s : Fin 64, ∀ n : Fin 6, (bits .and .u8 ((s.val : Int) / 2 ^ n.val) 1 == 1) = Nat.testBit s.val n.val := by decide +kernel
  exact H ⟨s, hs⟩ ⟨x.toNat - 1, by omega⟩
theorem ret_int {k : IntKind} {a b : Int} (h : a = b) : Ending.returned (.int k a) = .returned (.int k b) := by rw [h]
theorem ret_bool {a b : Bool} (h : a = b) : Ending.returned (.bool a) = .returned (.bool b) := by rw [h]

set_option maxRecDepth 100000 in
set_option maxHeartbeats 400000 in
theorem with_any (s : Nat) (x : Int) (w : World) (hs : s < 64) (h1 : 1 ≤ x) (h2 : x ≤ 6) :
    Calls Try.prog 160 #[.int .u8 s, .int .i64 x] w fun e w' => e = .returned (.int .u8 (s ||| 2 ^ (x.toNat - 1) : Nat)) ∧ w = w' := by
  have HB := Lib.hid (or_u8 hs h1 h2).1
  go_enter Try.func160, Try.ntmps160
  go_wp2
  go_ret
  exact ⟨ret_int HB.out, rfl⟩
set_option maxRecDepth 100000 in
set_option maxHeartbeats 400000 in
theorem contains_in (s : Nat) (x : Int) (w : World) (hs : s < 64) (h1 : 1 ≤ x) (h2 : x ≤ 6) :
    Calls Try.prog 142 #[.int .u8 s, .int .i64 x] w fun e w' => e = .returned (.bool (Nat.testBit s (x.toNat - 1))) ∧ w = w' := by
  have HB := Lib.hid (and_u8 hs h1 h2)
  go_enter Try.func142, Try.ntmps142
  go_wp2
  go_ret
  exact ⟨ret_bool HB.out, rfl⟩
set_option maxRecDepth 100000 in
set_option maxHeartbeats 400000 in
theorem contains_out (s : Nat) (x : Int) (w : World) (h : x < 1 ∨ 6 < x) :
    Calls Try.prog 142 #[.int .u8 s, .int .i64 x] w fun e w' => e = .returned (.bool false) ∧ w = w' := by
  rcases h with h | h
  · have hd : decide (1 ≤ x) = false := by simp; omega
    go_enter Try.func142, Try.ntmps142
    go_wp2
    go_ret
    exact ⟨rfl, rfl⟩
  · have hd : decide (1 ≤ x) = true := by simp; omega
    have hd2 : decide (x ≤ 6) = false := by simp; omega
    go_enter Try.func142, Try.ntmps142
    go_wp2
    go_ret
    exact ⟨rfl, rfl⟩

theorem drop_at {l : List Int} {k : Nat} {x : Int} (h : l[k]? = some x) : l.drop k = x :: l.drop (k + 1) := by
  obtain ⟨hk, rfl⟩ := List.getElem?_eq_some_iff.1 h
  exact List.drop_eq_getElem_cons hk

set_option maxRecDepth 100000 in
set_option maxHeartbeats 800000 in
/-- A valid set has its mask. -/
theorem bitsOf_yes (A : Option Addr) (c : Nat) (l : List Int) (w : World) (ha : IL w A l) (hv : vld l = true) :
    Calls Try.prog 143 #[.slice A l.length c] w fun e w' => e = .returned (.tuple #[.int .u8 (msk l), .bool true]) ∧ w = w' := by
  have hl := vld_len hv
  have HV := Lib.hid hv
  clear hv
  go_enter Try.func143, Try.ntmps143
  go_wp2
  go_loop [4, 5, 10] (fun s p i => ∃ (k m : Nat) (q : Int), k ≤ l.length ∧ i = .int .i64 k ∧ s = .int .u8 (m : Int) ∧ p = .int .i64 q ∧ 0 ≤ q ∧ q ≤ 6 ∧ m < 64 ∧ Hid (vf q (l.drop k) = true) ∧ Hid (mk m (l.drop k) = msk l)) (fun _ _ i => l.length - (intOf i).toNat)
  case atStart => exact ⟨0, 0, 0, Nat.zero_le _, rfl, rfl, rfl, by omega, by omega, by omega, HV.out, rfl⟩
  case round =>
    obtain ⟨k, m, q, hk, rfl, rfl, rfl, hq0, hq6, hm, hvf, hmk⟩ := hrel
    by_cases hlt : k < l.length
    · obtain ⟨b, off, x, rfl, hx, hc⟩ := ha.at_ hlt
      have hd := drop_at hx
      have hvf' := hvf.out
      have hmk' := hmk.out
      rw [hd] at hvf' hmk'
      simp only [vf, Bool.and_eq_true, decide_eq_true_eq] at hvf'
      obtain ⟨⟨hqx, hx6⟩, hvf2⟩ := hvf'
      simp only [mk] at hmk'
      have H1 := Lib.hid hvf2
      have H2 := Lib.hid hmk'
      have hx1 : 1 ≤ x := by omega
      have H3 := Lib.hid (or_u8 hm hx1 hx6).2
      clear hx hd hvf2 hmk' hvf hmk
      go_wp2_with (go_at_call 160; refine (with_any _ _ _ hm hx1 hx6).mono ?_; rintro e w' ⟨rfl, rfl⟩)
      go_round
      case rel => exact ⟨k + 1, _, x, by omega, by go_num, rfl, rfl, by omega, hx6, H3.out, H1.out, H2.out⟩
      case measure => simp [intOf]; omega
    · have hkl : k = l.length := by omega
      subst hkl
      have hmk' := hmk.out
      simp only [List.drop_length, mk] at hmk'
      have H2 := Lib.hid hmk'
      clear hmk' hmk hvf
      go_wp2
      go_ret2
      exact ⟨by rw [← H2.out]; rfl, rfl⟩

set_option maxRecDepth 100000 in
set_option maxHeartbeats 800000 in
/-- Of an invalid set there is no mask. -/
theorem bitsOf_no (A : Option Addr) (c : Nat) (l : List Int) (w : World) (ha : IL w A l) (hv : vld l = false) (hl : l.length ≤ 1048576) :
    Calls Try.prog 143 #[.slice A l.length c] w fun e w' => e = .returned (.tuple #[.int .u8 0, .bool false]) ∧ w = w' := by
  have HV := Lib.hid hv
  clear hv
  go_enter Try.func143, Try.ntmps143
  go_wp2
  go_loop [4, 5, 10] (fun s p i => ∃ (k m : Nat) (q : Int), k ≤ l.length ∧ i = .int .i64 k ∧ s = .int .u8 (m : Int) ∧ p = .int .i64 q ∧ 0 ≤ q ∧ q ≤ 6 ∧ m < 64 ∧ Hid (vf q (l.drop k) = false)) (fun _ _ i => l.length - (intOf i).toNat)
  case atStart => exact ⟨0, 0, 0, Nat.zero_le _, rfl, rfl, rfl, by omega, by omega, by omega, HV.out⟩
  case round =>
    obtain ⟨k, m, q, hk, rfl, rfl, rfl, hq0, hq6, hm, hvf⟩ := hrel
    by_cases hlt : k < l.length
    · obtain ⟨b, off, x, rfl, hx, hc⟩ := ha.at_ hlt
      have hd := drop_at hx
      have hvf' := hvf.out
      rw [hd] at hvf'
      simp only [vf] at hvf'
      by_cases hqx : q < x
      · by_cases hx6 : x ≤ 6
        · simp only [hqx, hx6, decide_true, Bool.true_and] at hvf'
          have H1 := Lib.hid hvf'
          have hx1 : 1 ≤ x := by omega
          have H3 := Lib.hid (or_u8 hm hx1 hx6).2
          clear hx hd hvf' hvf
          go_wp2_with (go_at_call 160; refine (with_any _ _ _ hm hx1 hx6).mono ?_; rintro e w' ⟨rfl, rfl⟩)
          go_round
          case rel => exact ⟨k + 1, _, x, by omega, by go_num, rfl, rfl, by omega, hx6, H3.out, H1.out⟩
          case measure => simp [intOf]; omega
        · clear hx hd hvf' hvf
          go_wp2
          go_ret2
          exact ⟨rfl, rfl⟩
      · clear hx hd hvf' hvf
        go_wp2
        go_ret2
        exact ⟨rfl, rfl⟩
    · have hkl : k = l.length := by omega
      subst hkl
      have hvf' := hvf.out
      simp [vf] at hvf'

/-- The members below k. -/
def memTo (s k : Nat) : List Int := ((List.range (k - 1)).map fun i => ((i + 1 : Nat) : Int)).filter fun x => Nat.testBit s (x.toNat - 1)
theorem memTo_yes {s k : Nat} (hk : 1 ≤ k) (h : Nat.testBit s (k - 1) = true) : memTo s (k + 1) = memTo s k ++ [(k : Int)] := by
  obtain ⟨j, rfl⟩ : ∃ j, k = j + 1 := ⟨k - 1, by omega⟩
  simp only [Nat.add_sub_cancel] at h
  have e : (((j + 1 : Nat) : Int)).toNat - 1 = j := by omega
  simp only [memTo, Nat.add_sub_cancel, List.range_succ, List.map_append, List.map_cons, List.map_nil, List.filter_append, List.filter_cons, e, h, if_true, List.filter_nil]
theorem memTo_no {s k : Nat} (hk : 1 ≤ k) (h : Nat.testBit s (k - 1) = false) : memTo s (k + 1) = memTo s k := by
  obtain ⟨j, rfl⟩ : ∃ j, k = j + 1 := ⟨k - 1, by omega⟩
  simp only [Nat.add_sub_cancel] at h
  have e : (((j + 1 : Nat) : Int)).toNat - 1 = j := by omega
  simp [memTo, List.range_succ, List.filter_append, h]
theorem memTo_len (s k : Nat) : (memTo s k).length ≤ k - 1 := by
  refine Nat.le_trans (List.length_filter_le _ _) ?_
  simp
theorem memTo_all (s : Nat) : memTo s 7 = mem s := rfl

/-- A result in new memory: the slice reads as l, its row is the call's own. -/
def New (w : World) (l : List Int) (e : Ending) (w' : World) : Prop :=
  ∃ A c, e = .returned (.slice A l.length c) ∧ w'.ownsRow w.heap.size 3 1 (.slice A l.length c) l.length (l.map (Value.int .i64)) ∧ Below w.heap.size w w'
theorem own_slice {w : World} {base : Nat} {e : TypeId} {n : Nat} {v : Value} {xs : List Value} (h : w.ownsRow base e 1 v n xs) : ∃ A c, v = .slice A n c := by
  rcases h.2 with ⟨rfl, rfl⟩ | ⟨g, cap, cur, rfl, _⟩
  · exact ⟨_, _, rfl⟩
  · exact ⟨_, _, rfl⟩
theorem New.mk {w w' : World} {l : List Int} {v : Value} (h : w'.ownsRow w.heap.size 3 1 v l.length (l.map (Value.int .i64))) (hb : Below w.heap.size w w') : New w l (.returned v) w' := by
  obtain ⟨A, c, rfl⟩ := own_slice h
  exact ⟨A, c, rfl, h, hb⟩
theorem own_base {w : World} {base base' : Nat} {e : TypeId} {size n : Nat} {v : Value} {xs : List Value} (h : w.ownsRow base e size v n xs) (hb : base' ≤ base) : w.ownsRow base' e size v n xs := by
  refine ⟨h.1, ?_⟩
  rcases h.2 with h0 | ⟨g, cap, cur, hv, hg, rest⟩
  · exact .inl h0
  · exact .inr ⟨g, cap, cur, hv, by omega, rest⟩
theorem New.later {w w1 w2 : World} {l : List Int} {e : Ending} (hb : Below w.heap.size w w1) (h : New w1 l e w2) : New w l e w2 := by
  obtain ⟨A, c, he, ho, hb2⟩ := h
  exact ⟨A, c, he, own_base ho hb.size, below_step hb hb2⟩
theorem New.nil {w w' : World} (hb : Below w.heap.size w w') : New w [] (.returned (.slice none 0 0)) w' := ⟨none, 0, rfl, World.ownsRow_nil _ _ _ _, hb⟩
theorem New.made {w w1 : World} (hb : Below w.heap.size w w1) : New w [] (.returned (.slice (some ⟨w1.heap.size, 0, none⟩) 0 0)) (w1.alloc (.cells #[] 3)) :=
  ⟨_, 0, rfl, World.ownsRow_made w1 #[] 0 hb.size (Nat.zero_le _) rfl, hb.alloc hb.size _⟩
/-- A slice in new memory and true; or false and nothing. -/
def New2 (w : World) (l : List Int) (b : Bool) (e : Ending) (w' : World) : Prop :=
  ∃ A c, e = .returned (.tuple #[.slice A l.length c, .bool b]) ∧ w'.ownsRow w.heap.size 3 1 (.slice A l.length c) l.length (l.map (Value.int .i64)) ∧ Below w.heap.size w w'
/-- The numbers 1 to k - 1 that p holds of. -/
def upTo (p : Int → Bool) (k : Nat) : List Int := ((List.range (k - 1)).map fun i => ((i + 1 : Nat) : Int)).filter p
theorem upTo_yes {p : Int → Bool} {k : Nat} (hk : 1 ≤ k) (h : p (k : Int) = true) : upTo p (k + 1) = upTo p k ++ [(k : Int)] := by
  obtain ⟨j, rfl⟩ : ∃ j, k = j + 1 := ⟨k - 1, by omega⟩
  simp only [upTo, Nat.add_sub_cancel, List.range_succ, List.map_append, List.map_cons, List.map_nil, List.filter_append, List.filter_cons, h, if_true, List.filter_nil]
theorem upTo_no {p : Int → Bool} {k : Nat} (hk : 1 ≤ k) (h : p (k : Int) = false) : upTo p (k + 1) = upTo p k := by
  obtain ⟨j, rfl⟩ : ∃ j, k = j + 1 := ⟨k - 1, by omega⟩
  simp only [upTo, Nat.add_sub_cancel, List.range_succ, List.map_append, List.map_cons, List.map_nil, List.filter_append, List.filter_cons, h, List.filter_nil, List.append_nil, Bool.false_eq_true, if_false]
theorem upTo_len (p : Int → Bool) (k : Nat) : (upTo p k).length ≤ k - 1 := by
  refine Nat.le_trans (List.length_filter_le _ _) ?_
  simp
/-- The first k elements that p holds of. -/
def takeF (p : Int → Bool) (l : List Int) (k : Nat) : List Int := (l.take k).filter p
theorem takeF_yes {p : Int → Bool} {l : List Int} {k : Nat} {x : Int} (hx : l[k]? = some x) (h : p x = true) : takeF p l (k + 1) = takeF p l k ++ [x] := by
  simp [takeF, List.take_add_one, hx, List.filter_append, h]
theorem takeF_no {p : Int → Bool} {l : List Int} {k : Nat} {x : Int} (hx : l[k]? = some x) (h : p x = false) : takeF p l (k + 1) = takeF p l k := by
  simp [takeF, List.take_add_one, hx, List.filter_append, h]
theorem takeF_len (p : Int → Bool) (l : List Int) (k : Nat) : (takeF p l k).length ≤ k := Nat.le_trans (List.length_filter_le _ _) (List.length_take_le _ _)
theorem takeF_all (p : Int → Bool) (l : List Int) : takeF p l l.length = l.filter p := by simp [takeF]
/-- Behind an append of one number. -/
theorem app_one {w wr w1 : World} {v v' : Value} {o : Obj} {l : List Int} {x : Int} (hown : wr.ownsRow w.heap.size 3 1 v l.length (l.map (Value.int .i64))) (hb : Below w.heap.size w wr)
    (hown' : w1.ownsRow w.heap.size 3 1 v' (l.length + 1) (l.map (Value.int .i64) ++ [.int .i64 x])) (hg : (wr.alloc o).grownBy w1 v.ownBlock) :
    w1.ownsRow w.heap.size 3 1 v' (l ++ [x]).length ((l ++ [x]).map (Value.int .i64)) ∧ Below w.heap.size w w1 :=
  ⟨by simpa using hown', (hb.alloc hb.size o).grown hg (by have := hb.size; simp; omega) (fun k hk => (hown.lt k hk).1)⟩

set_option maxRecDepth 100000 in
set_option maxHeartbeats 800000 in
theorem members_any (s : Nat) (w : World) (hs : s < 64) :
    Calls Try.prog 108 #[.int .u8 s] w (New w (mem s)) := by
  obtain ⟨i0, hi0, hz0, hz1, hz2⟩ := info_parts int_info
  go_enter Try.func108, Try.ntmps108
  go_wp2
  go_loopw [3, 4] (fun v i wr => ∃ k : Nat, 1 ≤ k ∧ k ≤ 7 ∧ i = .int .i64 k ∧ wr.ownsRow w.heap.size 3 1 v (memTo s k).length ((memTo s k).map (Value.int .i64)) ∧ Below w.heap.size w wr) (fun _ i _ => 7 - (intOf i).toNat)
  case atStart => exact ⟨1, by omega, by omega, rfl, World.ownsRow_nil _ _ _ _, Below.refl _ _⟩
  case round =>
    obtain ⟨k, hk1, hk7, rfl, hown, hbel⟩ := hrel
    by_cases hlt : k < 7
    · have hln := memTo_len s k
      by_cases hbit : Nat.testBit s (k - 1) = true
      · have hbit2 : Nat.testBit s ((k : Int).toNat - 1) = true := by rw [Int.toNat_natCast]; exact hbit
        have HB := Lib.hid hbit
        have HB2 := Lib.hid hbit2
        clear hbit hbit2
        go_wp2_with (first
          | (go_at_call 142; refine (contains_in _ _ _ hs (by omega) (by omega)).mono ?_; rintro e w' ⟨rfl, rfl⟩; rw [HB2.out])
          | (at_builtin; refine wpList_append_own _ rfl (.tmp 12) (.tmp 14) 37 rfl w.heap.size 3 i0 (.int .i64 0) 1 8 Try.underlying37 hi0 hz0 hz1 hz2 rfl (by decide) _ _ _ rfl (hown.alloc _) ⟨wr.heap.size, 0, none⟩ 1 1 [.int .i64 k] rfl rfl (cell_one_new _ _ _) (ints_oneCell .i64 [(k : Int)]) (by unfold maxLen; omega) (by omega) (by have := hbel.size; simp; omega) ?_))
        intro v' w1 hown' hgrow _
        have R := app_one hown hbel hown' hgrow
        rw [← memTo_yes hk1 HB.out] at R
        have HR := Lib.hid R
        clear R hown hown' hgrow hbel
        go_wp2
        go_roundw
        case rel => exact ⟨k + 1, by omega, by omega, by go_num, HR.out.1, HR.out.2⟩
        case measure => simp [intOf]; omega
      · have hbit' : Nat.testBit s (k - 1) = false := by simpa using hbit
        have hbit2 : Nat.testBit s ((k : Int).toNat - 1) = false := by rw [Int.toNat_natCast]; exact hbit'
        have HB := Lib.hid hbit'
        have HB2 := Lib.hid hbit2
        clear hbit hbit' hbit2
        rw [← memTo_no hk1 HB.out] at hown
        have HO := Lib.hid hown
        clear hown
        go_wp2_with (go_at_call 142; refine (contains_in _ _ _ hs (by omega) (by omega)).mono ?_; rintro e w' ⟨rfl, rfl⟩; rw [HB2.out])
        go_roundw
        case rel => exact ⟨k + 1, by omega, by omega, by go_num, HO.out, hbel⟩
        case measure => simp [intOf]; omega
    · have hkl : k = 7 := by omega
      subst hkl
      rw [memTo_all] at hown
      have HN := Lib.hid (New.mk hown hbel)
      clear hown hbel
      go_wp2
      go_ret
      exact HN.out
end Go.Proofs.Ytbkdhjmfphhhoaa

/- The reference model's set functions by their contracts. -/
namespace Go.Proofs.Ytbkdhjmfphhhoaa
open Go.RowKit

set_option maxRecDepth 100000 in
set_option maxHeartbeats 400000 in
theorem l6In_yes (n a b : Int) (w : World) (h1 : a ≤ n) (h2 : n ≤ b) :
    Calls Try.prog 66 #[.int .i64 n, .int .i64 a, .int .i64 b] w fun e w' => e = .returned (.bool true) ∧ w' = w := by
  go_enter Try.func66, Try.ntmps66
  go_wp2
  go_ret
  exact ⟨rfl, rfl⟩
set_option maxRecDepth 100000 in
set_option maxHeartbeats 400000 in
theorem l6In_no (n a b : Int) (w : World) (h : n < a ∨ b < n) :
    Calls Try.prog 66 #[.int .i64 n, .int .i64 a, .int .i64 b] w fun e w' => e = .returned (.bool false) ∧ w' = w := by
  by_cases h1 : a ≤ n
  · have hd : decide (a ≤ n) = true := by simp; omega
    have hd2 : decide (n ≤ b) = false := by simp; omega
    go_enter Try.func66, Try.ntmps66
    go_wp2
    go_ret
    exact ⟨rfl, rfl⟩
  · have hd : decide (a ≤ n) = false := by simp; omega
    go_enter Try.func66, Try.ntmps66
    go_wp2
    go_ret
    exact ⟨rfl, rfl⟩

/-- What the scan of SetValid knows of the last member. -/
def Last (l : List Int) (k : Nat) (q : Int) : Prop := (k = 0 ∧ q = 0) ∨ ∃ j, k = j + 1 ∧ l[j]? = some q
theorem vf_step {l : List Int} {k : Nat} {q x : Int} {b : Bool} (hx : l[k]? = some x) (h : vf q (l.drop k) = b) (h1 : q < x) (h2 : x ≤ 6) : vf x (l.drop (k + 1)) = b := by
  rw [drop_at hx] at h
  simpa [vf, h1, h2] using h
theorem vf_stop {l : List Int} {k : Nat} {q x : Int} {b : Bool} (hx : l[k]? = some x) (h : vf q (l.drop k) = b) (h1 : ¬ (q < x ∧ x ≤ 6)) : b = false := by
  rw [drop_at hx] at h
  simp only [vf] at h
  rw [← h]
  have : (decide (q < x) && decide (x ≤ 6)) = false := by simp; omega
  rw [this]; rfl
theorem vf_end {l : List Int} {q : Int} {b : Bool} (h : vf q (l.drop l.length) = b) : b = true := by
  simpa [vf] using h.symm

set_option maxRecDepth 100000 in
set_option maxHeartbeats 1600000 in
theorem specValid_any (A : Option Addr) (c : Nat) (l : List Int) (w : World) (ha : IL w A l) (hl : l.length ≤ 1048576) :
    Calls Try.prog 25 #[.slice A l.length c] w fun e w' => e = .returned (.bool (vld l)) ∧ Below w.heap.size w w' := by
  go_enter Try.func25, Try.ntmps25
  go_wp2
  go_loopw [3] (fun i wr => ∃ (k : Nat) (q : Int), k ≤ l.length ∧ i = .int .i64 k ∧ 0 ≤ q ∧ Hid (Last l k q) ∧ Hid (vf q (l.drop k) = vld l) ∧ Below w.heap.size w wr) (fun i _ => l.length - (intOf i).toNat)
  case atStart => exact ⟨0, 0, Nat.zero_le _, rfl, by omega, .inl ⟨rfl, rfl⟩, rfl, Below.refl _ _⟩
  case round =>
    obtain ⟨k, q, hk, rfl, hq0, hlast, hvf, hbel⟩ := hrel
    by_cases hlt : k < l.length
    · obtain ⟨b, off, x, hA, hx, hc⟩ := (ha.below hbel).at_ hlt
      have HX := Lib.hid hx
      clear hx
      have hki : (0 : Int) ≤ (k : Int) := by omega
      have hki2 : (k : Int) < (l.length : Int) := by omega
      by_cases hin : 1 ≤ x ∧ x ≤ 6
      · obtain ⟨hx1, hx6⟩ := hin
        rcases hlast.out with ⟨h0, rfl⟩ | ⟨j, rfl, hy⟩
        · subst hA
          have H1 := Lib.hid (vf_step HX.out hvf.out (by omega) hx6)
          have H0 := Lib.hid h0
          have hkd : decide (0 < k) = false := by simp; omega
          clear hlast h0
          go_wp2
          go_quiet ((go_at_call 66; exact Calls.quiet_of_same (l6In_yes _ _ _ _ hx1 hx6)))
          go_wp2
          go_roundw
          case rel => exact ⟨k + 1, x, by omega, by go_num, by omega, .inr ⟨k, rfl, HX.out⟩, H1.out, below_drewN hbel _⟩
          case measure => simp [intOf]; omega
        · have hc2 : ∃ b off, A = some ⟨b, off, none⟩ ∧ wr.cell? ⟨b, off + j, none⟩ = some (.int .i64 q) := by
            obtain ⟨b, off, y, hA', hy', hc'⟩ := (ha.below hbel).at_ (k := j) (by omega)
            rw [hy] at hy'; obtain rfl := Option.some.inj hy'
            exact ⟨b, off, hA', hc'⟩
          obtain ⟨b', off', hA', hc'⟩ := hc2
          subst hA
          obtain ⟨rfl, rfl⟩ : b = b' ∧ off = off' := by injection hA' with h; injection h with h1 h2; exact ⟨h1, h2⟩
          clear hA' hy hlast
          have hj0 : (0 : Int) ≤ (j : Int) := by omega
          have hj1 : (j : Int) < (l.length : Int) := by omega
          by_cases hqx : q < x
          · have H1 := Lib.hid (vf_step HX.out hvf.out hqx hx6)
            go_wp2
            go_quiet ((go_at_call 66; exact Calls.quiet_of_same (l6In_yes _ _ _ _ hx1 hx6)))
            go_wp2
            go_roundw
            case rel => exact ⟨j + 1 + 1, x, by omega, by go_num, by omega, .inr ⟨j + 1, rfl, HX.out⟩, H1.out, below_drewN hbel _⟩
            case measure => simp [intOf]; omega
          · have H1 := Lib.hid (vf_stop HX.out hvf.out (by omega))
            go_wp2
            go_quiet ((go_at_call 66; exact Calls.quiet_of_same (l6In_yes _ _ _ _ hx1 hx6)))
            go_wp2
            go_ret
            exact ⟨ret_bool H1.out.symm, below_drewN hbel _⟩
      · subst hA
        have H1 := Lib.hid (vf_stop HX.out hvf.out (by omega))
        have ho : x < 1 ∨ 6 < x := by omega
        go_wp2
        go_quiet ((go_at_call 66; exact Calls.quiet_of_same (l6In_no _ _ _ _ ho)))
        go_wp2
        go_ret
        exact ⟨ret_bool H1.out.symm, below_drewN hbel _⟩
    · have hkl : k = l.length := by omega
      subst hkl
      have H1 := Lib.hid (vf_end hvf.out)
      clear hvf hlast
      go_wp2
      go_ret
      exact ⟨ret_bool H1.out.symm, hbel⟩

theorem specValid_t (A : Option Addr) (c : Nat) (l : List Int) (w : World) (ha : IL w A l) (hl : l.length ≤ 1048576) (hv : vld l = true) :
    Calls Try.prog 25 #[.slice A l.length c] w fun e w' => e = .returned (.bool true) ∧ Below w.heap.size w w' := by
  have := specValid_any A c l w ha hl
  rwa [hv] at this
theorem specValid_f (A : Option Addr) (c : Nat) (l : List Int) (w : World) (ha : IL w A l) (hl : l.length ≤ 1048576) (hv : vld l = false) :
    Calls Try.prog 25 #[.slice A l.length c] w fun e w' => e = .returned (.bool false) ∧ Below w.heap.size w w' := by
  have := specValid_any A c l w ha hl
  rwa [hv] at this

set_option maxRecDepth 100000 in
set_option maxHeartbeats 800000 in
theorem l1Contains_any (A : Option Addr) (c : Nat) (l : List Int) (x : Int) (w : World) (ha : IL w A l) (hl : l.length ≤ 1048576) :
    Calls Try.prog 72 #[.slice A l.length c, .int .i64 x] w fun e w' => e = .returned (.bool (has l x)) ∧ w = w' := by
  go_enter Try.func72, Try.ntmps72
  go_wp2
  go_loop [5] (fun i => ∃ k : Nat, k ≤ l.length ∧ i = .int .i64 k ∧ Hid (has (l.take k) x = false)) (fun i => l.length - (intOf i).toNat)
  case atStart => exact ⟨0, Nat.zero_le _, rfl, by show _ = _; simp [has]⟩
  case round =>
    obtain ⟨k, hk, rfl, hnot⟩ := hrel
    by_cases hlt : k < l.length
    · obtain ⟨b, off, y, rfl, hy, hc⟩ := ha.at_ hlt
      by_cases hyx : y = x
      · have H := Lib.hid (show has l x = true by subst hyx; simpa [has] using List.mem_of_getElem? hy)
        have hyb : (y == x) = true := by simpa using hyx
        clear hy hnot hyx
        go_wp2
        go_ret
        exact ⟨ret_bool H.out.symm, rfl⟩
      · have H := Lib.hid (show has (l.take (k + 1)) x = false by
          have hn := hnot.out
          have hxy : ¬ x = y := fun h => hyx h.symm
          simp only [has, List.take_add_one, hy, Option.toList_some, List.contains_eq_mem, List.mem_append, List.mem_singleton, decide_eq_false_iff_not, hxy, or_false] at hn ⊢
          exact hn)
        have hyb : (y == x) = false := by simpa using hyx
        clear hy hnot hyx
        go_wp2
        go_round
        case rel => exact ⟨k + 1, by omega, by go_num, H.out⟩
        case measure => simp [intOf]; omega
    · have hkl : k = l.length := by omega
      subst hkl
      have H := Lib.hid (show has l x = false by have := hnot.out; rwa [List.take_length] at this)
      clear hnot
      go_wp2
      go_ret
      exact ⟨ret_bool H.out.symm, rfl⟩

theorem l1Contains_t (A : Option Addr) (c : Nat) (l : List Int) (x : Int) (w : World) (ha : IL w A l) (hl : l.length ≤ 1048576) (h : has l x = true) :
    Calls Try.prog 72 #[.slice A l.length c, .int .i64 x] w fun e w' => e = .returned (.bool true) ∧ w = w' := by
  have := l1Contains_any A c l x w ha hl
  rwa [h] at this
theorem l1Contains_f (A : Option Addr) (c : Nat) (l : List Int) (x : Int) (w : World) (ha : IL w A l) (hl : l.length ≤ 1048576) (h : has l x = false) :
    Calls Try.prog 72 #[.slice A l.length c, .int .i64 x] w fun e w' => e = .returned (.bool false) ∧ w = w' := by
  have := l1Contains_any A c l x w ha hl
  rwa [h] at this

end Go.Proofs.Ytbkdhjmfphhhoaa

/- The reference model's subsets, masks and membership by their contracts. -/
namespace Go.Proofs.Ytbkdhjmfphhhoaa
open Go.RowKit

theorem subs_step {a b : List Int} {k : Nat} {x : Int} (hx : a[k]? = some x) (h : subs (a.take k) b = true) (hb : has b x = true) : subs (a.take (k + 1)) b = true := by
  simp only [subs, List.take_add_one, hx, Option.toList_some, List.all_append, List.all_cons, List.all_nil, hb, Bool.and_true] at h ⊢
  exact h
theorem subs_stop {a b : List Int} {k : Nat} {x : Int} (hx : a[k]? = some x) (hb : has b x = false) : subs a b = false := by
  simp only [subs, List.all_eq_false]
  exact ⟨x, List.mem_of_getElem? hx, by simp [hb]⟩

set_option maxRecDepth 100000 in
set_option maxHeartbeats 800000 in
theorem l1Subset_any (A B : Option Addr) (c d : Nat) (a b : List Int) (w : World) (ha : IL w A a) (hb : IL w B b) (hla : a.length ≤ 1048576) (hlb : b.length ≤ 1048576) :
    Calls Try.prog 137 #[.slice A a.length c, .slice B b.length d] w fun e w' => e = .returned (.bool (subs a b)) ∧ w = w' := by
  go_enter Try.func137, Try.ntmps137
  go_wp2
  go_loop [5] (fun i => ∃ k : Nat, k ≤ a.length ∧ i = .int .i64 k ∧ Hid (subs (a.take k) b = true)) (fun i => a.length - (intOf i).toNat)
  case atStart => exact ⟨0, Nat.zero_le _, rfl, by show _ = _; simp [subs]⟩
  case round =>
    obtain ⟨k, hk, rfl, hnot⟩ := hrel
    by_cases hlt : k < a.length
    · obtain ⟨bl, off, x, rfl, hx, hc⟩ := ha.at_ hlt
      cases hcb : has b x
      · have H := Lib.hid (subs_stop hx hcb)
        have HB := Lib.hid hcb
        clear hx hnot hcb
        go_wp2_with fail
        refine (l1Contains_f _ _ _ _ _ hb hlb HB.out).mono ?_
        rintro e w' ⟨rfl, rfl⟩
        go_wp2
        go_ret
        exact ⟨ret_bool H.out.symm, rfl⟩
      · have H := Lib.hid (subs_step hx hnot.out hcb)
        have HB := Lib.hid hcb
        clear hx hnot hcb
        go_wp2_with fail
        refine (l1Contains_t _ _ _ _ _ hb hlb HB.out).mono ?_
        rintro e w' ⟨rfl, rfl⟩
        go_wp2
        go_round
        case rel => exact ⟨k + 1, by omega, by go_num, H.out⟩
        case measure => simp [intOf]; omega
    · have hkl : k = a.length := by omega
      subst hkl
      have H := Lib.hid (show subs a b = true by have := hnot.out; rwa [List.take_length] at this)
      clear hnot
      go_wp2
      go_ret
      exact ⟨ret_bool H.out.symm, rfl⟩

theorem pow_small {n : Nat} (h : n ≤ 6) : 2 ^ n ≤ 64 := Nat.pow_le_pow_right (by omega) h

set_option maxRecDepth 100000 in
set_option maxHeartbeats 800000 in
theorem l1Masks_any (w : World) : Calls Try.prog 154 #[] w fun e w' => e = .returned (.int .i64 64) ∧ w = w' := by
  go_enter Try.func154, Try.ntmps154
  go_wp2
  go_loop [1, 2] (fun n i => ∃ k p : Nat, k ≤ 6 ∧ i = .int .i64 k ∧ n = .int .i64 p ∧ p ≤ 64 ∧ Hid (p = 2 ^ k)) (fun _ i => 6 - (intOf i).toNat)
  case atStart => exact ⟨0, 1, by omega, rfl, rfl, by omega, rfl⟩
  case round =>
    obtain ⟨k, p, hk, rfl, rfl, hp, he⟩ := hrel
    by_cases hlt : k < 6
    · go_wp2
      go_round
      case rel => exact ⟨k + 1, 2 * p, by omega, by go_num, by go_num, by have := pow_small (n := k + 1) (by omega); rw [Nat.pow_succ, ← he.out] at this; omega, by show _ = _; rw [he.out, Nat.pow_succ, Nat.mul_comm]⟩
      case measure => simp [intOf]; omega
    · have H := Lib.hid (show p = 64 by rw [he.out, show k = 6 by omega])
      clear he
      go_wp2
      go_ret
      exact ⟨by rw [H.out]; rfl, rfl⟩

set_option maxRecDepth 100000 in
set_option maxHeartbeats 1600000 in
theorem l1Mask_any (A : Option Addr) (c : Nat) (l : List Int) (w : World) (ha : IL w A l) (hv : vld l = true) :
    Calls Try.prog 136 #[.slice A l.length c] w fun e w' => e = .returned (.int .i64 (msk l)) ∧ w = w' := by
  have hl := vld_len hv
  have HV := Lib.hid hv
  clear hv
  go_enter Try.func136, Try.ntmps136
  go_wp2
  go_loop [3, 4] (fun s i => ∃ t m : Int, -1 ≤ t ∧ t < l.length ∧ i = .int .i64 t ∧ s = .int .i64 m ∧ 0 ≤ m ∧ m ≤ 63 ∧ Hid (m = bsum (l.drop (t + 1).toNat))) (fun _ i => (intOf i + 1).toNat)
  case atStart => exact ⟨(l.length : Int) - 1, 0, by omega, by omega, rfl, rfl, by omega, by omega, by show _ = _; rw [List.drop_of_length_le (by omega)]; rfl⟩
  case round =>
    obtain ⟨t, m, ht1, ht2, rfl, rfl, hm0, hm1, hme⟩ := hrel
    by_cases h0 : 0 ≤ t
    · obtain ⟨j, rfl⟩ := Int.eq_ofNat_of_zero_le h0
      obtain ⟨b, off, x, rfl, hx, hc⟩ := ha.at_ (k := j) (by omega)
      obtain ⟨hx1, hx6⟩ := vld_at HV.out hx
      obtain ⟨n, rfl⟩ := Int.eq_ofNat_of_zero_le (show 0 ≤ x by omega)
      have HX := Lib.hid hx
      clear hx
      go_wp2
      go_loop [5, 6] (fun bit q => ∃ k p : Nat, 1 ≤ k ∧ k ≤ n ∧ q = .int .i64 k ∧ bit = .int .i64 p ∧ p ≤ 64 ∧ Hid (p = 2 ^ (k - 1))) (fun _ q => n - (intOf q).toNat)
      case atStart => exact ⟨1, 1, by omega, by omega, rfl, rfl, by omega, rfl⟩
      case round =>
        obtain ⟨k, p, hk1, hkn, rfl, rfl, hp, hpe⟩ := hrel
        by_cases hkl : k < n
        · go_wp2
          go_round
          case rel => exact ⟨k + 1, 2 * p, by omega, by omega, by go_num, by go_num, by have := pow_small (n := k) (by omega); rw [show k = k - 1 + 1 by omega, Nat.pow_succ, ← hpe.out] at this; omega, by show _ = _; rw [hpe.out, show k + 1 - 1 = k - 1 + 1 by omega, Nat.pow_succ, Nat.mul_comm]⟩
          case measure => simp [intOf]; omega
        · have H := Lib.hid (show m + (p : Int) = bsum (l.drop j) by
            rw [drop_at HX.out, bsum_cons, hme.out, hpe.out, show k = n by omega, Int.toNat_natCast, show ((j : Int) + 1).toNat = j + 1 by omega])
          have hbd : 0 ≤ m + (p : Int) ∧ m + (p : Int) ≤ 63 := by rw [H.out]; exact bsum_bd HV.out j
          obtain ⟨hbd1, hbd2⟩ := hbd
          clear hpe hme
          go_wp2
          go_round
          case rel => exact ⟨(j : Int) - 1, m + (p : Int), by omega, by omega, by go_num, by go_num, hbd1, hbd2, by show _ = _; rw [H.out]; congr 2; omega⟩
          case measure => simp [intOf]
    · have H := Lib.hid (show m = (msk l : Int) by rw [hme.out, show (t + 1).toNat = 0 by omega, List.drop_zero, bsum_msk HV.out])
      clear hme
      go_wp2
      go_ret
      exact ⟨by rw [← H.out]; rfl, rfl⟩

theorem bit_of {s k : Nat} {b : Bool} (h : Nat.testBit s k = b) : (s / 2 ^ k) % 2 = if b then 1 else 0 := by
  rw [← h, Nat.testBit_eq_decide_div_mod_eq]
  by_cases e : s / 2 ^ k % 2 = 1
  · simp [e]
  · simp [e]; omega

set_option maxRecDepth 100000 in
set_option maxHeartbeats 1600000 in
theorem l1OfMask_any (s : Nat) (w : World) (hs : s < 64) :
    Calls Try.prog 118 #[.int .i64 s] w (New w (mem s)) := by
  obtain ⟨i0, hi0, hz0, hz1, hz2⟩ := info_parts int_info
  go_enter Try.func118, Try.ntmps118
  go_wp2
  go_loopw [0, 3, 4] (fun q v i wr => ∃ k t : Nat, 1 ≤ k ∧ k ≤ 7 ∧ i = .int .i64 k ∧ q = .int .i64 t ∧ t < 64 ∧ Hid (t = s / 2 ^ (k - 1)) ∧ wr.ownsRow w.heap.size 3 1 v (memTo s k).length ((memTo s k).map (Value.int .i64)) ∧ Below w.heap.size w wr) (fun _ _ i _ => 7 - (intOf i).toNat)
  case atStart => exact ⟨1, s, by omega, by omega, rfl, rfl, hs, by show _ = _; simp, World.ownsRow_made w #[] 0 (Nat.le_refl _) (Nat.zero_le _) rfl, (Below.refl _ _).alloc (Nat.le_refl _) _⟩
  case round =>
    obtain ⟨k, t, hk1, hk7, rfl, rfl, ht, hte, hown, hbel⟩ := hrel
    by_cases hlt : k < 7
    · have hln := memTo_len s k
      have HT := Lib.hid (show t / 2 = s / 2 ^ (k + 1 - 1) by rw [hte.out, show k + 1 - 1 = k - 1 + 1 by omega, Nat.pow_succ, Nat.div_div_eq_div_mul])
      cases hbit : Nat.testBit s (k - 1)
      · have hodd : (t : Int) % 2 = 0 := by have := bit_of hbit; rw [← hte.out] at this; simp at this; omega
        rw [← memTo_no hk1 hbit] at hown
        have HO := Lib.hid hown
        clear hown hbit hte
        go_wp2
        go_roundw
        case rel => exact ⟨k + 1, t / 2, by omega, by omega, by go_num, by go_num, by omega, HT.out, HO.out, hbel⟩
        case measure => simp [intOf]; omega
      · have hodd : (t : Int) % 2 = 1 := by have := bit_of hbit; rw [← hte.out] at this; simp at this; omega
        have HB := Lib.hid hbit
        clear hbit hte
        go_wp2_with (at_builtin; refine wpList_append_own _ rfl (.tmp 13) (.tmp 15) 37 rfl w.heap.size 3 i0 (.int .i64 0) 1 8 Try.underlying37 hi0 hz0 hz1 hz2 rfl (by decide) _ _ _ rfl (hown.alloc _) ⟨wr.heap.size, 0, none⟩ 1 1 [.int .i64 k] rfl rfl (cell_one_new _ _ _) (ints_oneCell .i64 [(k : Int)]) (by unfold maxLen; omega) (by omega) (by have := hbel.size; simp; omega) ?_)
        intro v' w1 hown' hgrow _
        have R := app_one hown hbel hown' hgrow
        rw [← memTo_yes hk1 HB.out] at R
        have HR := Lib.hid R
        clear R hown hown' hgrow hbel
        go_wp2
        go_roundw
        case rel => exact ⟨k + 1, t / 2, by omega, by omega, by go_num, by go_num, by omega, HT.out, HR.out.1, HR.out.2⟩
        case measure => simp [intOf]; omega
    · have hkl : k = 7 := by omega
      subst hkl
      rw [memTo_all] at hown
      have HN := Lib.hid (New.mk hown hbel)
      clear hown hbel hte
      go_wp2
      go_ret
      exact HN.out

end Go.Proofs.Ytbkdhjmfphhhoaa

/- The readers of codes by their contracts. -/
namespace Go.Proofs.Ytbkdhjmfphhhoaa
open Go.RowKit

/-- The slice at A reads as the list l of bytes. -/
def BL (w : World) (A : Option Addr) (l : List Int) : Prop :=
  l = [] ∨ ∃ b off, A = some ⟨b, off, none⟩ ∧ b < w.heap.size ∧ ∀ j x, l[j]? = some x → w.cell? ⟨b, off + j, none⟩ = some (.int .u8 x) ∧ 0 ≤ x ∧ x ≤ 255
theorem BL.at_ {w : World} {A : Option Addr} {l : List Int} {k : Nat} (h : BL w A l) (hk : k < l.length) :
    ∃ b off x, A = some ⟨b, off, none⟩ ∧ w.cell? ⟨b, off + k, none⟩ = some (.int .u8 x) ∧ 0 ≤ x ∧ x ≤ 255 := by
  rcases h with rfl | ⟨b, off, rfl, _, hc⟩
  · simp at hk
  · obtain ⟨h1, h2, h3⟩ := hc k l[k] (List.getElem?_eq_getElem hk)
    exact ⟨b, off, l[k], rfl, h1, h2, h3⟩
theorem BL.keep {w w' : World} {A : Option Addr} {l : List Int} (h : BL w A l) (hs : w.heap.size ≤ w'.heap.size) (hb : ∀ b off, A = some ⟨b, off, none⟩ → b < w.heap.size → w'.heap[b]? = w.heap[b]?) : BL w' A l := by
  rcases h with rfl | ⟨b, off, rfl, hlt, hc⟩
  · exact .inl rfl
  · exact .inr ⟨b, off, rfl, Nat.lt_of_lt_of_le hlt hs, fun j x hx => ⟨(World.cell?_of_block (a := ⟨b, off + j, none⟩) (hb b off rfl hlt)).trans (hc j x hx).1, (hc j x hx).2⟩⟩
theorem BL.below {w w' : World} {A : Option Addr} {l : List Int} (h : BL w A l) (hb : Below w.heap.size w w') : BL w' A l := h.keep hb.size fun b _ _ hlt => hb.block b hlt

/-- A reader at block g: its code, and how much of it was read. The code lies elsewhere. -/
def Rd (w : World) (g : Nat) (A : Option Addr) (c : Nat) (l : List Int) (p : Nat) : Prop :=
  w.heap[g]? = some (.cells #[.slice A l.length c, .int .i64 p] 134 (0, 0)) ∧ BL w A l ∧ l.length ≤ 2000 ∧ ∀ b off, A = some ⟨b, off, none⟩ → l ≠ [] → b < g

theorem only_drew {a w : World} {row : Option Nat} (h : a.grownBy w row) (n : Nat) : a.grownBy (w.drewN n) row := ⟨h.os, h.tape, h.output, h.size, h.block⟩
theorem xor_small (z : Nat) (hz : z < 268435456) : ∃ v : Nat, bits .xor .i64 (z : Int) ((z : Int) / 64) = (v : Int) ∧ v < 268435456 := by
  refine ⟨z ^^^ (z / 64), ?_, Nat.xor_lt_two_pow (n := 28) (by omega) (by omega)⟩
  have hx : z ^^^ (z / 64) < 2 ^ 28 := Nat.xor_lt_two_pow (by omega) (by omega)
  have e : (z : Int) / 64 = ((z / 64 : Nat) : Int) := by omega
  have o : ∀ a : Nat, a < 2 ^ 28 → (BitVec.ofInt 64 (a : Int)).toNat = a := fun a ha => by
    rw [BitVec.ofInt_natCast, BitVec.toNat_ofNat]; exact Nat.mod_eq_of_lt (by omega)
  rw [e]
  show IntKind.i64.wrap ((BitVec.ofInt 64 (z : Int) ^^^ BitVec.ofInt 64 ((z / 64 : Nat) : Int)).toNat : Int) = _
  rw [BitVec.toNat_xor, o z (by omega), o (z / 64) (by omega)]
  exact IntWalk.i64_in _ (by omega)
/-- The reader behind its count. -/
theorem Rd.count {w : World} {g : Nat} {A : Option Addr} {c : Nat} {l : List Int} {p : Nat} (h : Rd w g A c l p) :
    Rd (w.setCell ⟨g, 1, none⟩ (.int .i64 ((p : Int) + 1))) g A c l (p + 1) ∧ w.grownBy (w.setCell ⟨g, 1, none⟩ (.int .i64 ((p : Int) + 1))) (some g) := by
  obtain ⟨hh, hbl, hl, hne⟩ := h
  have hgr : w.grownBy (w.setCell ⟨g, 1, none⟩ (.int .i64 ((p : Int) + 1))) (some g) := ⟨rfl, rfl, rfl, by simp [World.setCell], fun i _ hne => Below.heap_setCell w ⟨g, 1, none⟩ _ i (by rintro rfl; exact hne rfl)⟩
  refine ⟨⟨heap_setCell_same w g 1 _ _ _ hh, ?_, hl, hne⟩, hgr⟩
  rcases hbl with rfl | ⟨b, off, rfl, hlt, hc⟩
  · exact .inl rfl
  · by_cases hle : l = []
    · exact .inl hle
    · exact BL.keep (.inr ⟨b, off, rfl, hlt, hc⟩) hgr.size fun b' off' e hlt' => hgr.block b' hlt' (by have := hne b' off' e hle; intro h; injection h with h; omega)

set_option maxRecDepth 100000 in
set_option maxHeartbeats 1600000 in
theorem pick_any (g : Nat) (A : Option Addr) (c : Nat) (l : List Int) (p : Nat) (n : Int) (w : World) (h : Rd w g A c l p) (hn : 1 ≤ n) (hn2 : n ≤ 1000000) (hp : p ≤ 1000000) :
    Calls Try.prog 64 #[.pointer (some ⟨g, 0, none⟩), .int .i64 n] w fun e w' => ∃ x : Int, 0 ≤ x ∧ x < n ∧ e = .returned (.int .i64 x) ∧ Rd w' g A c l (p + 1) ∧ w.grownBy w' (some g) := by
  have hR := h.count
  have hh := h.1
  have hl := h.2.2.1
  have c1 : w.cell? ⟨g, 1, none⟩ = some (.int .i64 p) := by rw [cell_of_row w g 1 _ _ (0, 0) hh]; rfl
  have f1 : w.frozen? ⟨g, 1, none⟩ = false := frozen_of_row w g 1 _ _ hh
  have d0 : (w.setCell ⟨g, 1, none⟩ (.int .i64 ((p : Int) + 1))).cell? ⟨g, 0, none⟩ = some (.slice A l.length c) := by rw [cell_of_row _ g 0 _ _ (0, 0) hR.1.1]; rfl
  have d1 : (w.setCell ⟨g, 1, none⟩ (.int .i64 ((p : Int) + 1))).cell? ⟨g, 1, none⟩ = some (.int .i64 ((p : Int) + 1)) := by rw [cell_of_row _ g 1 _ _ (0, 0) hR.1.1]; rfl
  have hB := hR.1.2.1
  have HR := Lib.hid hR
  clear hh h hR
  obtain ⟨N, hN⟩ : ∃ N, N = l.length := ⟨_, rfl⟩
  rw [← hN] at d0 hl
  have HN := Lib.hid hN
  clear hN
  by_cases h0 : N = 0
  · have hz : ((N : Int) == 0) = true := beq_iff_eq.2 (by omega)
    clear h0
    go_enter Try.func64, Try.ntmps64
    go_wp2
    go_ret
    exact ⟨0, by omega, by omega, rfl, HR.out.1, HR.out.2⟩
  · have hz : ((N : Int) == 0) = false := beq_eq_false_iff_ne.2 (by omega)
    have hl0 : 0 < N := by omega
    clear h0
    by_cases hk : p < N
    · obtain ⟨b, off, x, rfl, hx, hx0, hx1⟩ := hB.at_ (k := p) (by rw [← HN.out]; exact hk)
      clear hB
      go_enter Try.func64, Try.ntmps64
      go_wp2
      go_ret
      exact ⟨_, Int.emod_nonneg _ (by omega), Int.emod_lt_of_pos _ (by omega), rfl, HR.out.1, HR.out.2⟩
    · have hm1 : p % N < N := Nat.mod_lt _ hl0
      have hm2 : (p * 7 + 3) % N < N := Nat.mod_lt _ hl0
      have hm3 : p / N ≤ p := Nat.div_le_self _ _
      have e1 : (p : Int).tmod (N : Int) = ((p % N : Nat) : Int) := by rw [Int.tmod_eq_emod_of_nonneg (by omega)]; simp
      have e2 : ((p : Int) * 7 + 3).tmod (N : Int) = (((p * 7 + 3) % N : Nat) : Int) := by rw [Int.tmod_eq_emod_of_nonneg (by omega)]; simp
      have e3 : (p : Int).tdiv (N : Int) = ((p / N : Nat) : Int) := by rw [Int.tdiv_eq_ediv_of_nonneg (by omega)]; simp
      obtain ⟨b, off, x, rfl, hx, hx0, hx1⟩ := hB.at_ (k := p % N) (by rw [← HN.out]; exact hm1)
      obtain ⟨b', off', y, hA, hy, hy0, hy1⟩ := hB.at_ (k := (p * 7 + 3) % N) (by rw [← HN.out]; exact hm2)
      obtain ⟨rfl, rfl⟩ : b = b' ∧ off = off' := by injection hA with h; injection h with h1 h2; exact ⟨h1, h2⟩
      clear hA hB
      generalize p % N = r at *
      generalize (p * 7 + 3) % N = s at *
      generalize p / N = d at *
      have hzn : ¬ N = 0 := by omega
      have wx : IntKind.i64.wrap x = x := IntWalk.i64_in _ (by omega)
      have wy : IntKind.i64.wrap y = y := IntWalk.i64_in _ (by omega)
      have w1 : IntKind.i64.wrap (x * 131) = x * 131 := IntWalk.i64_in _ (by omega)
      have w2 : IntKind.i64.wrap ((p : Int) * 7) = (p : Int) * 7 := IntWalk.i64_in _ (by omega)
      have w3 : IntKind.i64.wrap ((p : Int) * 7 + 3) = (p : Int) * 7 + 3 := IntWalk.i64_in _ (by omega)
      have w4 : IntKind.i64.wrap (y * 1117) = y * 1117 := IntWalk.i64_in _ (by omega)
      have w5 : IntKind.i64.wrap (x * 131 + y * 1117) = x * 131 + y * 1117 := IntWalk.i64_in _ (by omega)
      have w6 : IntKind.i64.wrap ((p : Int) * 29) = (p : Int) * 29 := IntWalk.i64_in _ (by omega)
      have w7 : IntKind.i64.wrap (x * 131 + y * 1117 + (p : Int) * 29) = x * 131 + y * 1117 + (p : Int) * 29 := IntWalk.i64_in _ (by omega)
      have w8 : IntKind.i64.wrap ((d : Int) * 53) = (d : Int) * 53 := IntWalk.i64_in _ (by omega)
      have w9 : IntKind.i64.wrap (x * 131 + y * 1117 + (p : Int) * 29 + (d : Int) * 53) = x * 131 + y * 1117 + (p : Int) * 29 + (d : Int) * 53 := IntWalk.i64_in _ (by omega)
      have r0 : (0 : Int) ≤ (r : Int) := by omega
      have r1 : (r : Int) < (N : Int) := by omega
      have s0 : (0 : Int) ≤ (s : Int) := by omega
      have s1 : (s : Int) < (N : Int) := by omega
      go_enter Try.func64, Try.ntmps64
      go_wp2
      go_quiet (fail)
      clear wx wy w1 w2 w3 w4 w5 w6 w7 w8 w9 e1 e2 e3 hx hy
      obtain ⟨z, hze⟩ := Int.eq_ofNat_of_zero_le (show 0 ≤ x * 131 + y * 1117 + (p : Int) * 29 + (d : Int) * 53 by omega)
      have hz2 : z < 268435456 := by omega
      rw [hze]
      clear hze r0 r1 s0 s1 hm1 hm2
      obtain ⟨v, hv, hvb⟩ := xor_small z hz2
      go_wp2
      go_ret
      exact ⟨_, Int.emod_nonneg _ (by omega), Int.emod_lt_of_pos _ (by omega), rfl, HR.out.1, only_drew HR.out.2 _⟩

/-- A reader at block g, whatever its code. -/
def RdX (w : World) (g p : Nat) : Prop := ∃ A c l, Rd w g A c l p
theorem RdX.lt {w : World} {g p : Nat} (h : RdX w g p) : g < w.heap.size := by
  obtain ⟨A, c, l, h⟩ := h
  exact (Array.getElem?_eq_some_iff.1 h.1).1
/-- Writes into later blocks leave it alone. -/
theorem RdX.grown {w w' : World} {g p : Nat} {row : Option Nat} (h : RdX w g p) (hg : w.grownBy w' row) (hr : ∀ k, row = some k → g < k) : RdX w' g p := by
  have hlt := h.lt
  obtain ⟨A, c, l, h1, h2, h3, h4⟩ := h
  refine ⟨A, c, l, (hg.block g hlt (fun e => by have := hr g e.symm; omega)).trans h1, ?_, h3, h4⟩
  by_cases hl : l = []
  · exact .inl hl
  · exact h2.keep hg.size fun b off e hb => hg.block b hb (fun e2 => by have := hr b e2.symm; have := h4 b off e hl; omega)
theorem RdX.below {w w' : World} {g p : Nat} (h : RdX w g p) (hb : Below w.heap.size w w') : RdX w' g p :=
  h.grown (row := none) ⟨hb.os, hb.tape, hb.output, hb.size, fun i hi _ => hb.block i hi⟩ (by simp)
theorem grown_trans {a b c : World} {row : Option Nat} (h : a.grownBy b row) (k : b.grownBy c row) : a.grownBy c row :=
  ⟨k.os.trans h.os, k.tape.trans h.tape, k.output.trans h.output, Nat.le_trans h.size k.size, fun i hi hne => (k.block i (Nat.lt_of_lt_of_le hi h.size) hne).trans (h.block i hi hne)⟩
theorem grown_below {a b c : World} {row : Option Nat} (h : a.grownBy b row) (k : Below b.heap.size b c) : a.grownBy c row :=
  ⟨k.os.trans h.os, k.tape.trans h.tape, k.output.trans h.output, Nat.le_trans h.size k.size, fun i hi hne => (k.block i (Nat.lt_of_lt_of_le hi h.size)).trans (h.block i hi hne)⟩
/-- Writes into blocks that are new to a. -/
theorem grown_new {a b c : World} {row row2 : Option Nat} (h : a.grownBy b row) (k : b.grownBy c row2) (hn : ∀ i, row2 = some i → a.heap.size ≤ i) : a.grownBy c row :=
  ⟨k.os.trans h.os, k.tape.trans h.tape, k.output.trans h.output, Nat.le_trans h.size k.size, fun i hi hne => (k.block i (Nat.lt_of_lt_of_le hi h.size) (fun e => by have := hn i e.symm; omega)).trans (h.block i hi hne)⟩

theorem pickX (g p : Nat) (n : Int) (w : World) (h : RdX w g p) (hn : 1 ≤ n) (hn2 : n ≤ 1000000) (hp : p ≤ 1000000) :
    Calls Try.prog 64 #[.pointer (some ⟨g, 0, none⟩), .int .i64 n] w fun e w' => ∃ x : Int, 0 ≤ x ∧ x < n ∧ e = .returned (.int .i64 x) ∧ RdX w' g (p + 1) ∧ w.grownBy w' (some g) := by
  obtain ⟨A, c, l, h⟩ := h
  exact (pick_any g A c l p n w h hn hn2 hp).mono fun e w' ⟨x, h0, h1, he, hr, hg⟩ => ⟨x, h0, h1, he, ⟨A, c, l, hr⟩, hg⟩

theorem rd_new (w : World) (A : Option Addr) (c : Nat) (l : List Int) (ha : BL w A l) (hl : l.length ≤ 2000) :
    RdX (w.alloc (.cells #[.slice A l.length c, .int .i64 0] 134)) w.heap.size 0 := by
  refine ⟨A, c, l, heap_alloc_new w _, ha.below ((Below.refl _ _).alloc (Nat.le_refl _) _), hl, fun b off e hne => ?_⟩
  rcases ha with rfl | ⟨b', off', rfl, hlt, _⟩
  · exact absurd rfl hne
  · injection e with e; injection e with e1; omega
theorem BL.take {w : World} {A : Option Addr} {l : List Int} (h : BL w A l) (n : Nat) : BL w A (l.take n) := by
  rcases h with rfl | ⟨b, off, rfl, hlt, hc⟩
  · left; simp
  · refine .inr ⟨b, off, rfl, hlt, fun j x hx => hc j x ?_⟩
    rw [List.getElem?_take] at hx
    split at hx
    · exact hx
    · cases hx

set_option maxRecDepth 100000 in
set_option maxHeartbeats 800000 in
theorem l6Open_any (A : Option Addr) (c : Nat) (l : List Int) (w : World) (ha : BL w A l) (hc : l.length ≤ c) (hm : l.length ≤ maxLen) (hmc : c ≤ maxLen) :
    Calls Try.prog 54 #[.slice A l.length c] w fun e w' => e = .returned (.pointer (some ⟨w.heap.size, 0, none⟩)) ∧ RdX w' w.heap.size 0 ∧ Below w.heap.size w w' := by
  unfold maxLen at hm hmc
  by_cases hl : l.length ≤ 2000
  · have H := Lib.hid (rd_new w A c l ha hl)
    go_enter Try.func54, Try.ntmps54
    go_wp2
    go_ret
    exact ⟨rfl, H.out, (Below.refl _ _).alloc (Nat.le_refl _) _⟩
  · have h2 : (l.take 2000).length = 2000 := by simp; omega
    have H := rd_new w A c (l.take 2000) (ha.take 2000) (by omega)
    rw [h2] at H
    have H2 := Lib.hid H
    clear H h2
    have hA : ∃ b off, A = some ⟨b, off, none⟩ := by
      rcases ha with rfl | ⟨b, off, rfl, _⟩
      · simp at hl
      · exact ⟨b, off, rfl⟩
    obtain ⟨b, off, rfl⟩ := hA
    obtain ⟨N, hN⟩ : ∃ N, N = l.length := ⟨_, rfl⟩
    rw [← hN] at hl hc hm ⊢
    clear hN
    go_enter Try.func54, Try.ntmps54
    go_wp2
    go_ret
    exact ⟨rfl, H2.out, (Below.refl _ _).alloc (Nat.le_refl _) _⟩

/-- A drawn set: few numbers in a new row; of what was there only the reader's block has turned. -/
def Drawn (w : World) (g : Nat) (e : Ending) (w' : World) : Prop :=
  ∃ (l : List Int) (A : Option Addr) (c p : Nat), l.length ≤ 7 ∧ e = .returned (.slice A l.length c) ∧ w'.ownsRow w.heap.size 3 1 (.slice A l.length c) l.length (l.map (Value.int .i64)) ∧ RdX w' g p ∧ p ≤ 8 ∧ w.grownBy w' (some g)
theorem Drawn.mk {w w' : World} {g p : Nat} {l : List Int} {v : Value} (hl : l.length ≤ 7) (h : w'.ownsRow w.heap.size 3 1 v l.length (l.map (Value.int .i64))) (hr : RdX w' g p) (hp : p ≤ 8) (hg : w.grownBy w' (some g)) : Drawn w g (.returned v) w' := by
  obtain ⟨A, c, rfl⟩ := own_slice h
  exact ⟨l, A, c, p, hl, rfl, h, hr, hp, hg⟩
/-- Behind an append of one drawn number. -/
theorem drawn_app {w w3 w4 : World} {g p : Nat} {l : List Int} {v v' : Value} {x : Int} {o : Obj} (hl : l.length ≤ 6) (hlt : g < w.heap.size)
    (hg2 : w.grownBy w3 (some g)) (hr : RdX w3 g p) (hp : p ≤ 8) (hv : ∀ k, v.ownBlock = some k → w.heap.size ≤ k)
    (ho : w4.ownsRow w.heap.size 3 1 v' (l.length + 1) (l.map (Value.int .i64) ++ [.int .i64 x])) (hg : (w3.alloc o).grownBy w4 v.ownBlock) : Drawn w g (.returned v') w4 := by
  have hg3 : w3.grownBy w4 v.ownBlock := ⟨hg.os, hg.tape, hg.output, Nat.le_trans (by simp) hg.size, fun i hi hne => (hg.block i (by simp; omega) hne).trans (Below.heap_alloc w3 o i hi)⟩
  refine Drawn.mk (l := l ++ [x]) (p := p) (by simp; omega) (by simpa using ho) (hr.grown hg3 fun k hk => Nat.lt_of_lt_of_le hlt (hv k hk)) hp (grown_new hg2 hg3 hv)

theorem kept_far {w w' : World} {base g : Nat} {v : Value} {n : Nat} {xs : List Value} (h : w.ownsRow base 3 1 v n xs) (hg : w.grownBy w' (some g)) (hlt : g < base) : w'.ownsRow base 3 1 v n xs := by
  refine h.kept hg ?_
  cases e : v.ownBlock with
  | none => left; rfl
  | some k => right; intro e2; injection e2 with e2; have := (h.lt k e).1; omega

end Go.Proofs.Ytbkdhjmfphhhoaa

/- Rows of the call's own that are told apart by the time at which they were made. -/
namespace Go.Proofs.Ytbkdhjmfphhhoaa
open Go.RowKit

/-- The slice A reads as l; its row was made when the heap had between lo and hi blocks. -/
def Own (w : World) (lo hi : Nat) (A : Option Addr) (c : Nat) (l : List Int) : Prop :=
  w.ownsRow lo 3 1 (.slice A l.length c) l.length (l.map (Value.int .i64)) ∧ hi ≤ w.heap.size ∧ ∀ g, (Value.slice A l.length c).ownBlock = some g → lo ≤ g ∧ g < hi

section
variable {w w' : World} {lo hi c : Nat} {A : Option Addr} {l : List Int}
theorem Own.of_new (h : w'.ownsRow lo 3 1 (.slice A l.length c) l.length (l.map (Value.int .i64))) : Own w' lo w'.heap.size A c l := ⟨h, Nat.le_refl _, fun g hg => h.lt g hg⟩
theorem Own.il (h : Own w lo hi A c l) : IL w A l := (IL.of_own h.1).1
theorem Own.below (h : Own w lo hi A c l) (hb : Below w.heap.size w w') : Own w' lo hi A c l :=
  ⟨h.1.kept (row := none) ⟨hb.os, hb.tape, hb.output, hb.size, fun i hi _ => hb.block i hi⟩ (by cases (Value.slice A l.length c).ownBlock <;> simp), Nat.le_trans h.2.1 hb.size, h.2.2⟩
/-- A write into another row. -/
theorem Own.other {lo2 hi2 c2 : Nat} {A2 : Option Addr} {l2 : List Int} (h : Own w lo hi A c l) (k : Own w lo2 hi2 A2 c2 l2) (hg : w.grownBy w' (Value.slice A2 l2.length c2).ownBlock) (hd : hi ≤ lo2 ∨ hi2 ≤ lo) : Own w' lo hi A c l := by
  refine ⟨h.1.kept hg ?_, Nat.le_trans h.2.1 hg.size, h.2.2⟩
  cases e : (Value.slice A l.length c).ownBlock with
  | none => left; rfl
  | some g =>
    right
    intro e2
    have h1 := h.2.2 g e
    have h2 := k.2.2 g e2.symm
    omega
/-- The row that was written into itself. -/
theorem Own.same {l2 : List Int} (h : Own w lo hi A c l) (hl : l2.length = l.length) (hg : w.grownBy w' (Value.slice A l.length c).ownBlock) (ho : w'.ownsRow lo 3 1 (.slice A l.length c) l.length (l2.map (Value.int .i64))) : Own w' lo hi A c l2 := by
  refine ⟨by rw [hl]; exact ho, Nat.le_trans h.2.1 hg.size, fun g hg => h.2.2 g (by rw [hl] at hg; exact hg)⟩
theorem Own.keeps {w0 : World} (h : Own w lo hi A c l) (hb : Below w0.heap.size w0 w) (hlo : w0.heap.size ≤ lo) (hg : w.grownBy w' (Value.slice A l.length c).ownBlock) : Below w0.heap.size w0 w' :=
  hb.grown hg hb.size (fun k hk => Nat.le_trans hlo (h.2.2 k hk).1)
end

theorem mark_own (A : Option Addr) (c : Nat) (l : List Int) (k : Nat) (K : Int) (hK : K = k) (w : World) {lo hi : Nat} (h : Own w lo hi A c l) (hl : l.length ≤ 1048576) (hk : k ≤ 1073741824) :
    Calls Try.prog 46 #[.slice A l.length c, .int .i64 K] w fun e w' =>
      e = .returned (.int .i64 (K + l.length)) ∧ Own w' lo hi A c (marks k l.length) ∧ w.grownBy w' (Value.slice A l.length c).ownBlock := by
  subst hK
  refine (markIntS_own lo A c l k w h.1 hl hk).mono fun e w' ⟨he, ho, hg⟩ => ⟨?_, h.same (marks_len _ _) hg ho, hg⟩
  rw [he, Int.natCast_add]
theorem held_own (A : Option Addr) (c : Nat) (k n : Nat) (K : Int) (hK : K = k) (w : World) (h : IL w A (marks k n)) (hn : n ≤ 1048576) (hk : k ≤ 1073741824) :
    Calls Try.prog 48 #[.slice A n c, .int .i64 K] w fun e w' => e = .returned (.int .i64 (K + n)) ∧ w = w' := by
  subst hK
  refine (heldIntS_any A c k n w h hn hk).mono fun e w' ⟨he, hw⟩ => ⟨?_, hw⟩
  rw [he, Int.natCast_add]
end Go.Proofs.Ytbkdhjmfphhhoaa

/- Drawn sets by their contracts. -/
namespace Go.Proofs.Ytbkdhjmfphhhoaa
open Go.RowKit

/-- A drawn set, told by how far the reader has come. -/
def DrawnAt (w : World) (g p : Nat) (e : Ending) (w' : World) : Prop :=
  ∃ (l : List Int) (A : Option Addr) (c q : Nat), l.length ≤ 7 ∧ e = .returned (.slice A l.length c) ∧ w'.ownsRow w.heap.size 3 1 (.slice A l.length c) l.length (l.map (Value.int .i64)) ∧ RdX w' g q ∧ q ≤ p + 3 ∧ w.grownBy w' (some g)
theorem DrawnAt.mk {w w' : World} {g p q : Nat} {l : List Int} {v : Value} (hl : l.length ≤ 7) (h : w'.ownsRow w.heap.size 3 1 v l.length (l.map (Value.int .i64))) (hr : RdX w' g q) (hp : q ≤ p + 3) (hg : w.grownBy w' (some g)) : DrawnAt w g p (.returned v) w' := by
  obtain ⟨A, c, rfl⟩ := own_slice h
  exact ⟨l, A, c, q, hl, rfl, h, hr, hp, hg⟩
theorem drawnAt_app {w w3 w4 : World} {g p q : Nat} {l : List Int} {v v' : Value} {x : Int} {o : Obj} (hl : l.length ≤ 6) (hlt : g < w.heap.size)
    (hg2 : w.grownBy w3 (some g)) (hr : RdX w3 g q) (hp : q ≤ p + 3) (hv : ∀ k, v.ownBlock = some k → w.heap.size ≤ k)
    (ho : w4.ownsRow w.heap.size 3 1 v' (l.length + 1) (l.map (Value.int .i64) ++ [.int .i64 x])) (hg : (w3.alloc o).grownBy w4 v.ownBlock) : DrawnAt w g p (.returned v') w4 := by
  have hg3 : w3.grownBy w4 v.ownBlock := ⟨hg.os, hg.tape, hg.output, Nat.le_trans (by simp) hg.size, fun i hi hne => (hg.block i (by simp; omega) hne).trans (Below.heap_alloc w3 o i hi)⟩
  exact DrawnAt.mk (l := l ++ [x]) (q := q) (by simp; omega) (by simpa using ho) (hr.grown hg3 fun k hk => Nat.lt_of_lt_of_le hlt (hv k hk)) hp (grown_new hg2 hg3 hv)
theorem drawnAt_lit {w w1 : World} {g p q : Nat} (cs : List Int) (hc : cs.length ≤ 7) (hr : RdX w1 g q) (hp : q ≤ p + 3) (hg : w.grownBy w1 (some g)) :
    DrawnAt w g p (.returned (.slice (some ⟨w1.heap.size, 0, none⟩) cs.length cs.length)) (w1.alloc (.cells (cs.map (Value.int .i64)).toArray 3)) := by
  have ho := World.ownsRow_lit (base := w.heap.size) (e := 3) (size := 1) w1 (cs.map (Value.int .i64)).toArray cs.length hg.size (by unfold maxLen; omega) (by simp)
  refine DrawnAt.mk (l := cs) (q := q) hc (by simpa using ho) (hr.below ((Below.refl _ _).alloc (Nat.le_refl _) _)) hp (grown_below hg ((Below.refl _ _).alloc (Nat.le_refl _) _))

set_option maxRecDepth 100000 in
set_option maxHeartbeats 1600000 in
theorem l91Set_any (g p : Nat) (w : World) (h : RdX w g p) (hp : p ≤ 900000) :
    Calls Try.prog 65 #[.pointer (some ⟨g, 0, none⟩)] w (DrawnAt w g p) := by
  obtain ⟨i0, hi0, hz0, hz1, hz2⟩ := info_parts int_info
  have hlt := h.lt
  go_enter Try.func65, Try.ntmps65
  go_wp2_with fail
  refine (pickX _ _ 64 _ h (by omega) (by omega) (by omega)).mono ?_
  rintro e w2 ⟨x, x0, x1, rfl, hrw2, hgw2⟩
  obtain ⟨m, rfl⟩ := Int.eq_ofNat_of_zero_le x0
  go_wp2_with fail
  refine (l1OfMask_any m _ (by omega)).mono ?_
  rintro e w3 ⟨A3, c3, rfl, o3, b3⟩
  have hr3 := hrw2.below b3
  have g3 := grown_below hgw2 b3
  have o3' := own_base o3 hgw2.size
  have hml := mem_len m
  clear o3 b3 hgw2 hrw2
  go_wp2_with fail
  refine (pickX _ _ 40 _ hr3 (by omega) (by omega) (by omega)).mono ?_
  rintro e w4 ⟨y, y0, y1, rfl, hrw4, hgw4⟩
  have g4 := grown_trans g3 hgw4
  have o4 := kept_far o3' hgw4 hlt
  have hv : ∀ k, (Value.slice A3 (mem m).length c3).ownBlock = some k → w.heap.size ≤ k := fun k hk => (o4.lt k hk).1
  clear g3 o3' hgw4 hr3
  by_cases hy : y = 0
  · have hyb : (y == 0) = true := by simpa using hy
    clear hy
    go_wp2_with fail
    refine (pickX _ _ 9 _ hrw4 (by omega) (by omega) (by omega)).mono ?_
    rintro e w5 ⟨z, z0, z1, rfl, hrw5, hgw5⟩
    have g5 := grown_trans g4 hgw5
    have hown := kept_far o4 hgw5 hlt
    have g5s := g5.size
    clear g4 hgw5 o4
    go_wp2_with (at_builtin; refine wpList_append_own _ rfl (.tmp 11) (.tmp 15) 37 rfl w.heap.size 3 i0 (.int .i64 0) 1 8 Try.underlying37 hi0 hz0 hz1 hz2 rfl (by decide) _ _ _ rfl (hown.alloc _) ⟨w5.heap.size, 0, none⟩ 1 1 [.int .i64 (z - 1)] rfl rfl (cell_one_new _ _ _) (ints_oneCell .i64 [(z - 1 : Int)]) (by unfold maxLen; omega) (by omega) (by simp; omega) ?_)
    intro v' w6 ho6 hg6 _
    have D := Lib.hid (drawnAt_app (p := p) hml hlt g5 hrw5 (by omega) hv ho6 hg6)
    clear ho6 hg6 hown g5 hrw5
    go_wp2
    go_ret
    exact D.out
  · have hyb : (y == 0) = false := by simpa using hy
    by_cases hy1 : y = 1
    · have hyb1 : (y == 1) = true := by simpa using hy1
      have D := Lib.hid (drawnAt_lit (w := w) (p := p) [2, 1] (by decide) hrw4 (by omega) g4)
      clear hy hy1 o4 hrw4 g4
      go_wp2
      go_ret
      exact D.out
    · have hyb1 : (y == 1) = false := by simpa using hy1
      have D := Lib.hid (DrawnAt.mk (l := mem m) (p := p) (by omega) o4 hrw4 (by omega) g4)
      clear hy hy1 o4 hrw4 g4
      go_wp2
      go_ret
      exact D.out

/-- Two drawn sets in two new rows. -/
def Drawn2 (w : World) (e : Ending) (w' : World) : Prop :=
  ∃ (a b : List Int) (A B : Option Addr) (c d : Nat), a.length ≤ 7 ∧ b.length ≤ 7 ∧ e = .returned (.tuple #[.slice A a.length c, .slice B b.length d]) ∧ IL w' A a ∧ IL w' B b ∧ Below w.heap.size w w'

set_option maxRecDepth 100000 in
set_option maxHeartbeats 400000 in
/-- Two slices that read as one list are the same. -/
theorem sameInts_yes (A B : Option Addr) (c d : Nat) (l : List Int) (w : World) (ha : IL w A l) (hb : IL w B l) (hl : l.length ≤ 1048576) :
    Calls Try.prog 60 #[.slice A l.length c, .slice B l.length d] w fun e w' => e = .returned (.bool true) ∧ Below w.heap.size w w' := by
  go_enter Try.func60, Try.ntmps60
  go_wp2
  go_loopw [5] (fun i wr => ∃ k : Nat, k ≤ l.length ∧ i = .int .i64 k ∧ Below w.heap.size w wr) (fun i _ => l.length - (intOf i).toNat)
  case atStart => exact ⟨0, Nat.zero_le _, rfl, Below.refl _ _⟩
  case round =>
    obtain ⟨k, hk, rfl, hbel⟩ := hrel
    by_cases hlt : k < l.length
    · obtain ⟨b, off, x, rfl, hx, hc⟩ := (ha.below hbel).at_ hlt
      obtain ⟨b', off', x', rfl, hx', hc'⟩ := (hb.below hbel).at_ hlt
      obtain rfl : x = x' := by rw [hx] at hx'; injection hx'
      clear hx hx'
      have hki : (0 : Int) ≤ (k : Int) := by omega
      have hki2 : (k : Int) < (l.length : Int) := by omega
      go_wp2
      go_quiet (fail)
      go_wp2
      go_roundw
      case rel => exact ⟨k + 1, by omega, by go_num, below_drewN hbel _⟩
      case measure => simp [intOf]; omega
    · go_wp2
      go_ret
      exact ⟨rfl, hbel⟩

/-- A []byte that came in, as the row's opening gives it. -/
theorem bl_of_row {w : World} {a : Option Addr} {len cap : Nat} {zs : List Int}
    (h : (a = none ∧ len = 0 ∧ cap = 0 ∧ zs = []) ∨ ∃ x, a = some x ∧ len ≤ cap ∧ cap ≤ maxLen ∧ zs.length = cap ∧ (∀ i, i < zs.length → w.cell? (x.add i) = some (.int .u8 (zs.getD i 0))) ∧ ∀ n ∈ zs, (Lit.int .u8 n).wf = true) :
    ∃ l : List Int, l.length = len ∧ len ≤ cap ∧ cap ≤ maxLen ∧ BL w a l := by
  rcases h with ⟨rfl, rfl, rfl, _⟩ | ⟨x, rfl, hl, hm, hz, hc, hwf⟩
  · exact ⟨[], rfl, by omega, by unfold maxLen; omega, .inl rfl⟩
  · refine ⟨zs.take len, by simp; omega, hl, hm, ?_⟩
    rcases Nat.eq_zero_or_pos len with h0 | h0
    · subst h0; left; simp
    · right
      obtain ⟨b, off, spot⟩ := x
      have hspot : spot = none := by simpa [Addr.add] using World.cell?_spot (hc 0 (by omega))
      subst hspot
      refine ⟨b, off, rfl, World.block_lt_of_cell? w _ (hc 0 (by omega)), fun j x hx => ?_⟩
      obtain ⟨hj, hx⟩ := List.getElem?_eq_some_iff.1 hx
      simp at hj hx
      have h1 := hc j (by omega)
      rw [Addr.add_lit] at h1
      have h2 : zs.getD j 0 = x := by rw [← hx]; simp [List.getD, show j < zs.length by omega]
      have h3 := hwf x (by rw [← hx]; exact List.getElem_mem _)
      rw [h1, h2]
      exact ⟨rfl, by simp [Lit.wf, IntKind.min, IntKind.max, IntKind.signed, IntKind.bits] at h3; omega⟩
end Go.Proofs.Ytbkdhjmfphhhoaa

/- Slices of slices of integers that read as lists of lists, and the laws' own helpers on them by their contracts. -/
namespace Go.Proofs.Ytbkdhjmfphhhoaa
open Go.RowKit

/-- The tape has moved, nothing else. -/
def Drew (w w' : World) : Prop := ∃ n, w' = w.drewN n
theorem Drew.refl (w : World) : Drew w w := ⟨0, rfl⟩
theorem Drew.more {w w' : World} (h : Drew w w') (n : Nat) : Drew w (w'.drewN n) := by
  obtain ⟨m, rfl⟩ := h
  exact ⟨_, World.drewN_drewN _ _ _⟩
theorem Drew.trans {a b c : World} (h : Drew a b) (k : Drew b c) : Drew a c := by
  obtain ⟨n, rfl⟩ := k
  exact h.more n
theorem Drew.below {w w' : World} (h : Drew w w') : Below w.heap.size w w' := by
  obtain ⟨n, rfl⟩ := h
  exact below_drewN (Below.refl _ _) n
theorem Drew.size {w w' : World} (h : Drew w w') : w'.heap.size = w.heap.size := by
  obtain ⟨n, rfl⟩ := h
  rfl

/-- The slice at A reads as the list F of lists of ints. -/
def ISS (w : World) (A : Option Addr) (F : List (List Int)) : Prop :=
  F = [] ∨ ∃ b off, A = some ⟨b, off, none⟩ ∧ b < w.heap.size ∧ ∀ j l, F[j]? = some l → ∃ B d, w.cell? ⟨b, off + j, none⟩ = some (.slice B l.length d) ∧ IL w B l
theorem ISS.at_ {w : World} {A : Option Addr} {F : List (List Int)} {k : Nat} (h : ISS w A F) (hk : k < F.length) :
    ∃ b off l B d, A = some ⟨b, off, none⟩ ∧ F[k]? = some l ∧ w.cell? ⟨b, off + k, none⟩ = some (.slice B l.length d) ∧ IL w B l := by
  rcases h with rfl | ⟨b, off, rfl, _, hc⟩
  · simp at hk
  · obtain ⟨B, d, h1, h2⟩ := hc k _ (List.getElem?_eq_getElem hk)
    exact ⟨b, off, F[k], B, d, rfl, List.getElem?_eq_getElem hk, h1, h2⟩
theorem ISS.below {w w' : World} {A : Option Addr} {F : List (List Int)} (h : ISS w A F) (hb : Below w.heap.size w w') : ISS w' A F := by
  rcases h with rfl | ⟨b, off, rfl, hlt, hc⟩
  · exact .inl rfl
  · refine .inr ⟨b, off, rfl, Nat.lt_of_lt_of_le hlt hb.size, fun j l hl => ?_⟩
    obtain ⟨B, d, h1, h2⟩ := hc j l hl
    exact ⟨B, d, (hb.cell (p := ⟨b, off + j, none⟩) hlt).trans h1, h2.below hb⟩
/-- No row is longer than n. -/
def Short (F : List (List Int)) (n : Nat) : Prop := ∀ l ∈ F, l.length ≤ n
theorem Short.at_ {F : List (List Int)} {n k : Nat} {l : List Int} (h : Short F n) (hl : F[k]? = some l) : l.length ≤ n := h l (List.mem_of_getElem? hl)

set_option maxRecDepth 100000 in
set_option maxHeartbeats 400000 in
theorem eqIntS_drew (A B : Option Addr) (c d : Nat) (l : List Int) (w : World) (ha : IL w A l) (hb : IL w B l) (hl : l.length ≤ 1048576) :
    Calls Try.prog 45 #[.slice A l.length c, .slice B l.length d] w fun e w' => e = .returned (.bool true) ∧ ∃ n, w' = w.drewN n := by
  go_enter Try.func45, Try.ntmps45
  go_wp2
  go_loopw [5] (fun i wr => ∃ k : Nat, k ≤ l.length ∧ i = .int .i64 k ∧ Drew w wr) (fun i _ => l.length - (intOf i).toNat)
  case atStart => exact ⟨0, Nat.zero_le _, rfl, Drew.refl _⟩
  case round =>
    obtain ⟨k, hk, rfl, hd⟩ := hrel
    by_cases hlt : k < l.length
    · obtain ⟨b, off, x, rfl, hx, hc⟩ := (ha.below hd.below).at_ hlt
      obtain ⟨b', off', x', rfl, hx', hc'⟩ := (hb.below hd.below).at_ hlt
      obtain rfl : x = x' := by rw [hx] at hx'; injection hx'
      clear hx hx'
      have hki : (0 : Int) ≤ (k : Int) := by omega
      have hki2 : (k : Int) < (l.length : Int) := by omega
      go_wp2
      go_quiet (fail)
      go_wp2
      go_roundw
      case rel => exact ⟨k + 1, by omega, by go_num, hd.more _⟩
      case measure => simp [intOf]; omega
    · go_wp2
      go_ret
      exact ⟨rfl, hd⟩

set_option maxRecDepth 100000 in
set_option maxHeartbeats 800000 in
/-- Two slices of slices that read as one list are equal. -/
theorem eqIntSS_yes (A B : Option Addr) (c d : Nat) (F : List (List Int)) (w : World) (ha : ISS w A F) (hb : ISS w B F) (hl : F.length ≤ 1048576) (hs : Short F 1048576) :
    Calls Try.prog 88 #[.slice A F.length c, .slice B F.length d] w fun e w' => e = .returned (.bool true) ∧ Drew w w' := by
  go_enter Try.func88, Try.ntmps88
  go_wp2
  go_loopw [5] (fun i wr => ∃ k : Nat, k ≤ F.length ∧ i = .int .i64 k ∧ Drew w wr) (fun i _ => F.length - (intOf i).toNat)
  case atStart => exact ⟨0, Nat.zero_le _, rfl, Drew.refl _⟩
  case round =>
    obtain ⟨k, hk, rfl, hd⟩ := hrel
    by_cases hlt : k < F.length
    · obtain ⟨b, off, l, A', c1, rfl, hx, hc, hil⟩ := (ha.below hd.below).at_ hlt
      obtain ⟨b', off', l', B', d1, rfl, hx', hc', hil'⟩ := (hb.below hd.below).at_ hlt
      obtain rfl : l = l' := by rw [hx] at hx'; injection hx'
      have hll := hs.at_ hx
      have E : ∀ n, Calls Try.prog 45 #[.slice A' l.length c1, .slice B' l.length d1] (wr.drewN n) fun e w' => e = .returned (.bool true) ∧ ∃ m, w' = (wr.drewN n).drewN m :=
        fun n => eqIntS_drew A' B' c1 d1 l _ (hil.below (below_drewN (Below.refl _ _) n)) (hil'.below (below_drewN (Below.refl _ _) n)) hll
      clear hx hx'
      have hki : (0 : Int) ≤ (k : Int) := by omega
      have hki2 : (k : Int) < (F.length : Int) := by omega
      go_wp2
      go_quiet ((go_at_call 45; exact Calls.quiet_of (E _)))
      go_wp2
      go_roundw
      case rel => exact ⟨k + 1, by omega, by go_num, hd.more _⟩
      case measure => simp [intOf]; omega
    · go_wp2
      go_ret
      exact ⟨rfl, hd⟩

/-- How many numbers lie in the rows. -/
def wt (F : List (List Int)) : Nat := (F.map List.length).sum
theorem wt_take {F : List (List Int)} {k : Nat} {l : List Int} (h : F[k]? = some l) : wt (F.take (k + 1)) = wt (F.take k) + l.length := by
  simp [wt, List.take_add_one, h]
theorem wt_le (F : List (List Int)) (k : Nat) : wt (F.take k) ≤ wt F := by
  have h : wt F = wt (F.take k) + wt (F.drop k) := by
    unfold wt
    rw [← List.sum_append, ← List.map_append, List.take_append_drop]
  omega
theorem wt_short {F : List (List Int)} {n : Nat} (h : F.length + wt F ≤ n) : Short F n := by
  intro l hl
  obtain ⟨k, hk, e⟩ := List.getElem_of_mem hl
  have := wt_take (F := F) (k := k) (l := l) (by rw [List.getElem?_eq_getElem hk, e])
  have := wt_le F (k + 1)
  omega

set_option maxRecDepth 100000 in
set_option maxHeartbeats 400000 in
theorem szIntS_yes (A : Option Addr) (c n q : Nat) (w : World) (h : n ≤ q) (hq : q ≤ 1048576) :
    Calls Try.prog 127 #[.slice A n c, .int .i64 q] w fun e w' => e = .returned (.int .i64 (q - n : Nat)) ∧ w = w' := by
  have hd : (q : Int) - (n : Int) = ((q - n : Nat) : Int) := by omega
  go_enter Try.func127, Try.ntmps127
  go_wp2
  go_ret
  exact ⟨rfl, rfl⟩
set_option maxRecDepth 100000 in
set_option maxHeartbeats 400000 in
theorem szIntS_no (A : Option Addr) (c n q : Nat) (w : World) (h : q < n) (hn : n ≤ maxLen) :
    Calls Try.prog 127 #[.slice A n c, .int .i64 q] w fun e w' => e = .returned (.int .i64 (-1)) ∧ w = w' := by
  unfold maxLen at hn
  go_enter Try.func127, Try.ntmps127
  go_wp2
  go_ret
  exact ⟨rfl, rfl⟩

/-- The size of an argument, or the sign that it is too large. -/
def szOf (F : List (List Int)) (q : Nat) : Int := if F.length + wt F ≤ q then ((q - (F.length + wt F) : Nat) : Int) else -1

set_option maxRecDepth 100000 in
set_option maxHeartbeats 800000 in
theorem szIntSS_any (A : Option Addr) (c q : Nat) (F : List (List Int)) (w : World) (ha : ISS w A F) (hl : F.length ≤ maxLen) (hs : Short F maxLen) (hq : q ≤ 1048576) :
    Calls Try.prog 84 #[.slice A F.length c, .int .i64 q] w fun e w' => e = .returned (.int .i64 (szOf F q)) ∧ w = w' := by
  by_cases h0 : F.length ≤ q
  · have hmax : maxLen = 140737488355328 ∨ True := .inr trivial
    clear hmax
    have HL := Lib.hid hl
    clear hl
    have hd : (q : Int) - (F.length : Int) = ((q - F.length : Nat) : Int) := by omega
    go_enter Try.func84, Try.ntmps84
    go_wp2
    go_loop [1, 5] (fun r i => ∃ (k t : Nat), k ≤ F.length ∧ i = .int .i64 k ∧ r = .int .i64 t ∧ t ≤ 1048576 ∧ Hid (t + (F.length + wt (F.take k)) = q)) (fun _ i => F.length - (intOf i).toNat)
    case atStart => exact ⟨0, q - F.length, Nat.zero_le _, rfl, by rw [← hd], by omega, by show _ = _; simp [wt]; omega⟩
    case round =>
      obtain ⟨k, t, hk, rfl, rfl, ht, hsum⟩ := hrel
      by_cases hlt : k < F.length
      · obtain ⟨b, off, l, B, d, rfl, hx, hc, hil⟩ := ha.at_ hlt
        have hll := hs.at_ hx
        by_cases hle : l.length ≤ t
        · have H := Lib.hid (show (t - l.length) + (F.length + wt (F.take (k + 1))) = q by have := hsum.out; rw [wt_take hx]; omega)
          clear hx hsum
          go_wp2_with fail
          refine (szIntS_yes _ _ _ _ _ hle ht).mono ?_
          rintro e w' ⟨rfl, rfl⟩
          go_wp2
          go_round
          case rel => exact ⟨k + 1, t - l.length, by omega, by go_num, rfl, by omega, H.out⟩
          case measure => simp [intOf]; omega
        · have H := Lib.hid (show szOf F q = -1 by
            have := hsum.out; have := wt_take hx; have := wt_le F (k + 1)
            unfold szOf; rw [if_neg (by omega)])
          clear hx hsum
          go_wp2_with fail
          refine (szIntS_no _ _ _ _ _ (by omega) hll).mono ?_
          rintro e w' ⟨rfl, rfl⟩
          go_wp2
          go_ret
          exact ⟨ret_int H.out.symm, rfl⟩
      · have hkl : k = F.length := by omega
        subst hkl
        have H := Lib.hid (show szOf F q = (t : Int) by
          have := hsum.out; rw [List.take_length] at this
          unfold szOf; rw [if_pos (by omega)]; omega)
        clear hsum
        go_wp2
        go_ret
        exact ⟨ret_int H.out.symm, rfl⟩
  · have H := Lib.hid (show szOf F q = -1 by unfold szOf; rw [if_neg (by omega)])
    unfold maxLen at hl
    clear hs ha
    go_enter Try.func84, Try.ntmps84
    go_wp2
    go_ret
    exact ⟨ret_int H.out.symm, rfl⟩
theorem szIntSS_yes (A : Option Addr) (c q : Nat) (F : List (List Int)) (w : World) (ha : ISS w A F) (hl : F.length ≤ maxLen) (hs : Short F maxLen) (hq : q ≤ 1048576) (h : F.length + wt F ≤ q) :
    Calls Try.prog 84 #[.slice A F.length c, .int .i64 q] w fun e w' => e = .returned (.int .i64 (q - (F.length + wt F) : Nat)) ∧ w = w' := by
  have := szIntSS_any A c q F w ha hl hs hq
  rwa [szOf, if_pos h] at this
theorem szIntSS_no (A : Option Addr) (c q : Nat) (F : List (List Int)) (w : World) (ha : ISS w A F) (hl : F.length ≤ maxLen) (hs : Short F maxLen) (hq : q ≤ 1048576) (h : ¬ F.length + wt F ≤ q) :
    Calls Try.prog 84 #[.slice A F.length c, .int .i64 q] w fun e w' => e = .returned (.int .i64 (-1)) ∧ w = w' := by
  have := szIntSS_any A c q F w ha hl hs hq
  rwa [szOf, if_neg h] at this

/-- A row of the call's own, made when the heap had between lo and hi blocks. -/
def RowAt (w : World) (lo hi : Nat) (l : List Int) (v : Value) : Prop := ∃ A c, v = .slice A l.length c ∧ Own w lo hi A c l
def Asc (rs : List Value) : Prop := rs.Pairwise fun u v => ∀ g g', u.ownBlock = some g → v.ownBlock = some g' → g < g'
def Rws (w : World) (lo hi : Nat) (F : List (List Int)) (rs : List Value) : Prop :=
  rs.length = F.length ∧ (∀ (j : Nat) l v, F[j]? = some l → rs[j]? = some v → RowAt w lo hi l v) ∧ Asc rs
theorem Own.mono {w : World} {lo hi lo2 hi2 c : Nat} {A : Option Addr} {l : List Int} (h : Own w lo hi A c l) (h1 : lo2 ≤ lo) (h2 : hi ≤ hi2) (h3 : hi2 ≤ w.heap.size) : Own w lo2 hi2 A c l :=
  ⟨own_base h.1 h1, h3, fun g hg => ⟨Nat.le_trans h1 (h.2.2 g hg).1, Nat.lt_of_lt_of_le (h.2.2 g hg).2 h2⟩⟩
/-- A row stands where its block stands. -/
theorem own_at {w w' : World} {base : Nat} {e : TypeId} {size n : Nat} {v : Value} {xs : List Value} (h : w.ownsRow base e size v n xs) (hb : ∀ g, v.ownBlock = some g → w'.heap[g]? = w.heap[g]?) : w'.ownsRow base e size v n xs := by
  refine ⟨h.1, ?_⟩
  rcases h.2 with h0 | ⟨g, cap, cur, hv, h1, h2, h3⟩
  · exact .inl h0
  · exact .inr ⟨g, cap, cur, hv, h1, (hb g (by rw [hv]; rfl)).trans h2, h3⟩
theorem Own.at_ {w w' : World} {lo hi c : Nat} {A : Option Addr} {l : List Int} (h : Own w lo hi A c l) (hs : hi ≤ w'.heap.size) (hb : ∀ g, lo ≤ g → g < hi → (Value.slice A l.length c).ownBlock = some g → w'.heap[g]? = w.heap[g]?) : Own w' lo hi A c l :=
  ⟨own_at h.1 fun g hg => hb g (h.2.2 g hg).1 (h.2.2 g hg).2 hg, hs, h.2.2⟩
theorem Rws.nil (w : World) (lo hi : Nat) : Rws w lo hi [] [] := ⟨rfl, fun j l v h => by simp at h, List.Pairwise.nil⟩
theorem Rws.at_ {w w' : World} {lo hi : Nat} {F : List (List Int)} {rs : List Value} (h : Rws w lo hi F rs) (hs : hi ≤ w'.heap.size) (hb : ∀ g, lo ≤ g → g < hi → (∃ cur, w.heap[g]? = some (.cells cur 3 (0, 0))) → w'.heap[g]? = w.heap[g]?) : Rws w' lo hi F rs := by
  refine ⟨h.1, fun j l v hl hv => ?_, h.2.2⟩
  obtain ⟨A, c, rfl, ho⟩ := h.2.1 j l v hl hv
  refine ⟨A, c, rfl, ho.at_ hs fun g h1 h2 hg => hb g h1 h2 ?_⟩
  rcases ho.1.2 with ⟨h0, _⟩ | ⟨g', cap, cur, hv', _, h5, _⟩
  · rw [h0] at hg; cases hg
  · rw [hv'] at hg
    cases hg
    exact ⟨cur, h5⟩
theorem Rws.snoc {w : World} {lo hi lo2 hi2 : Nat} {F : List (List Int)} {rs : List Value} {l : List Int} {v : Value} (h : Rws w lo hi F rs) (k : RowAt w lo2 hi2 l v) (h1 : hi ≤ lo2) (h2 : lo ≤ lo2) (h3 : hi ≤ hi2) : Rws w lo hi2 (F ++ [l]) (rs ++ [v]) := by
  obtain ⟨A, c, rfl, ho⟩ := k
  refine ⟨by simp [h.1], fun j m u hm hu => ?_, ?_⟩
  · rcases Nat.lt_or_ge j F.length with hj | hj
    · rw [List.getElem?_append_left hj] at hm
      rw [List.getElem?_append_left (by rw [h.1]; exact hj)] at hu
      obtain ⟨A', c', rfl, ho'⟩ := h.2.1 j m u hm hu
      exact ⟨A', c', rfl, ho'.mono (Nat.le_refl _) h3 ho.2.1⟩
    · rw [List.getElem?_append_right hj] at hm
      rw [List.getElem?_append_right (by rw [h.1]; exact hj), h.1] at hu
      generalize j - F.length = i at *
      cases i with
      | succ i => simp at hm
      | zero =>
        simp at hm hu
        subst hm hu
        exact ⟨A, c, rfl, ho.mono h2 (Nat.le_refl _) ho.2.1⟩
  · refine List.pairwise_append.2 ⟨h.2.2, by simp, fun u hu u' hu' g g' hg hg' => ?_⟩
    simp at hu'
    subst hu'
    obtain ⟨j, hj, e⟩ := List.getElem_of_mem hu
    obtain ⟨A', c', e', ho'⟩ := h.2.1 j (F[j]'(by rw [← h.1]; exact hj)) u (List.getElem?_eq_getElem _) (by rw [List.getElem?_eq_getElem hj, e])
    subst e'
    have := (ho'.2.2 g hg).2
    have := (ho.2.2 g' hg').1
    omega
theorem Rws.iss {w : World} {lo hi base n c : Nat} {e : TypeId} {A : Option Addr} {F : List (List Int)} {rs xs : List Value} (h : Rws w lo hi F rs) (ho : w.ownsRow base e 1 (.slice A n c) n xs) (hx : ∀ (j : Nat) v, rs[j]? = some v → xs[j]? = some v) : ISS w A F := by
  rcases ho.2 with ⟨h0, h1⟩ | ⟨g, cap, cur, hv, hb, hg, _⟩
  · left
    subst h1
    have h2 := ho.1
    simp at h2
    subst h2
    rcases F with _ | ⟨l, F⟩
    · rfl
    · have hr := h.1
      rcases rs with _ | ⟨v, rs⟩
      · simp at hr
      · exact absurd (hx 0 v (by simp)) (by simp)
  · injection hv with hA hn hcc
    subst hA
    refine .inr ⟨g, 0, rfl, (Array.getElem?_eq_some_iff.1 hg).1, fun j l hl => ?_⟩
    have hj : j < rs.length := by rw [h.1]; exact (List.getElem?_eq_some_iff.1 hl).1
    obtain ⟨B, d, e', hoo⟩ := h.2.1 j l rs[j] hl (List.getElem?_eq_getElem hj)
    refine ⟨B, d, ?_, hoo.il⟩
    have := ho.cells (g := g) rfl j _ (hx j _ (List.getElem?_eq_getElem hj))
    rw [Addr.add_lit] at this
    rw [this, e']

/-- A slice of slices of the call's own, made when the heap had between lo and hi blocks. -/
def OSS (w : World) (lo hi : Nat) (A : Option Addr) (c : Nat) (F : List (List Int)) : Prop :=
  ∃ rs, w.ownsRow lo 37 1 (.slice A F.length c) F.length rs ∧ hi ≤ w.heap.size ∧ (∀ g, (Value.slice A F.length c).ownBlock = some g → lo ≤ g ∧ g < hi) ∧ Rws w lo hi F rs
theorem OSS.iss {w : World} {lo hi c : Nat} {A : Option Addr} {F : List (List Int)} (h : OSS w lo hi A c F) : ISS w A F := by
  obtain ⟨rs, ho, _, _, hr⟩ := h
  exact hr.iss ho fun _ _ h => h
/-- Blocks between lo and hi may have been written, no others. -/
structure Keep (lo hi : Nat) (w w' : World) : Prop where
  os : w'.os = w.os
  tape : w'.tape = w.tape
  output : w'.output = w.output
  size : w.heap.size ≤ w'.heap.size
  block : ∀ i, i < w.heap.size → ¬ (lo ≤ i ∧ i < hi) → w'.heap[i]? = w.heap[i]?
theorem Keep.refl (lo hi : Nat) (w : World) : Keep lo hi w w := ⟨rfl, rfl, rfl, Nat.le_refl _, fun _ _ _ => rfl⟩
theorem Keep.trans {lo hi : Nat} {a b c : World} (h : Keep lo hi a b) (k : Keep lo hi b c) : Keep lo hi a c :=
  ⟨k.os.trans h.os, k.tape.trans h.tape, k.output.trans h.output, Nat.le_trans h.size k.size, fun i hi hn => (k.block i (Nat.lt_of_lt_of_le hi h.size) hn).trans (h.block i hi hn)⟩
theorem Keep.of_below {w w' : World} (lo hi : Nat) (h : Below w.heap.size w w') : Keep lo hi w w' := ⟨h.os, h.tape, h.output, h.size, fun i hi _ => h.block i hi⟩
theorem Keep.of_grown {w w' : World} {row : Option Nat} {lo hi : Nat} (h : w.grownBy w' row) (hr : ∀ g, row = some g → lo ≤ g ∧ g < hi) : Keep lo hi w w' :=
  ⟨h.os, h.tape, h.output, h.size, fun i hi hn => h.block i hi fun e => hn (hr i e.symm)⟩
theorem OSS.keep {w w' : World} {lo hi lo2 hi2 c : Nat} {A : Option Addr} {F : List (List Int)} (h : OSS w lo hi A c F) (k : Keep lo2 hi2 w w') (hd : hi ≤ lo2 ∨ hi2 ≤ lo) : OSS w' lo hi A c F := by
  obtain ⟨rs, ho, hh, hb, hr⟩ := h
  exact ⟨rs, own_at ho fun g hg => k.block g (by have := hb g hg; omega) (by have := hb g hg; omega), Nat.le_trans hh k.size, hb, hr.at_ (Nat.le_trans hh k.size) fun g h1 h2 _ => k.block g (by omega) (by omega)⟩
theorem OSS.below {w w' : World} {lo hi c : Nat} {A : Option Addr} {F : List (List Int)} (h : OSS w lo hi A c F) (hb : Below w.heap.size w w') : OSS w' lo hi A c F := by
  have hh : hi ≤ w.heap.size := by obtain ⟨_, _, hh, _⟩ := h; exact hh
  exact h.keep (Keep.of_below w.heap.size w.heap.size hb) (.inl hh)
theorem below_keep {a w w' : World} {lo hi : Nat} (h : Below a.heap.size a w) (k : Keep lo hi w w') (hl : a.heap.size ≤ lo) : Below a.heap.size a w' :=
  ⟨k.os.trans h.os, k.tape.trans h.tape, k.output.trans h.output, Nat.le_trans h.size k.size, fun i hi => (k.block i (Nat.lt_of_lt_of_le hi h.size) (by omega)).trans (h.block i hi)⟩
theorem OSS.hi_le {w : World} {lo hi c : Nat} {A : Option Addr} {F : List (List Int)} (h : OSS w lo hi A c F) : hi ≤ w.heap.size := by obtain ⟨_, _, hh, _⟩ := h; exact hh
end Go.Proofs.Ytbkdhjmfphhhoaa

/- Two families that read alike are the same: the laws' own helpers, by their contracts. -/
namespace Go.Proofs.Ytbkdhjmfphhhoaa
open Go.RowKit

set_option maxRecDepth 100000 in
set_option maxHeartbeats 400000 in
theorem sameInts_drew (A B : Option Addr) (c d : Nat) (l : List Int) (w : World) (ha : IL w A l) (hb : IL w B l) (hl : l.length ≤ 1048576) :
    Calls Try.prog 60 #[.slice A l.length c, .slice B l.length d] w fun e w' => e = .returned (.bool true) ∧ ∃ n, w' = w.drewN n := by
  go_enter Try.func60, Try.ntmps60
  go_wp2
  go_loopw [5] (fun i wr => ∃ k : Nat, k ≤ l.length ∧ i = .int .i64 k ∧ Drew w wr) (fun i _ => l.length - (intOf i).toNat)
  case atStart => exact ⟨0, Nat.zero_le _, rfl, Drew.refl _⟩
  case round =>
    obtain ⟨k, hk, rfl, hd⟩ := hrel
    by_cases hlt : k < l.length
    · obtain ⟨b, off, x, rfl, hx, hc⟩ := (ha.below hd.below).at_ hlt
      obtain ⟨b', off', x', rfl, hx', hc'⟩ := (hb.below hd.below).at_ hlt
      obtain rfl : x = x' := by rw [hx] at hx'; injection hx'
      clear hx hx'
      have hki : (0 : Int) ≤ (k : Int) := by omega
      have hki2 : (k : Int) < (l.length : Int) := by omega
      go_wp2
      go_quiet (fail)
      go_wp2
      go_roundw
      case rel => exact ⟨k + 1, by omega, by go_num, hd.more _⟩
      case measure => simp [intOf]; omega
    · go_wp2
      go_ret
      exact ⟨rfl, hd⟩

set_option maxRecDepth 100000 in
set_option maxHeartbeats 800000 in
/-- Two slices of slices that read as one list are equal. -/
theorem sameSets_yes (A B : Option Addr) (c d : Nat) (F : List (List Int)) (w : World) (ha : ISS w A F) (hb : ISS w B F) (hl : F.length ≤ 1048576) (hs : Short F 1048576) :
    Calls Try.prog 111 #[.slice A F.length c, .slice B F.length d] w fun e w' => e = .returned (.bool true) ∧ Drew w w' := by
  go_enter Try.func111, Try.ntmps111
  go_wp2
  go_loopw [5] (fun i wr => ∃ k : Nat, k ≤ F.length ∧ i = .int .i64 k ∧ Drew w wr) (fun i _ => F.length - (intOf i).toNat)
  case atStart => exact ⟨0, Nat.zero_le _, rfl, Drew.refl _⟩
  case round =>
    obtain ⟨k, hk, rfl, hd⟩ := hrel
    by_cases hlt : k < F.length
    · obtain ⟨b, off, l, A', c1, rfl, hx, hc, hil⟩ := (ha.below hd.below).at_ hlt
      obtain ⟨b', off', l', B', d1, rfl, hx', hc', hil'⟩ := (hb.below hd.below).at_ hlt
      obtain rfl : l = l' := by rw [hx] at hx'; injection hx'
      have hll := hs.at_ hx
      have E : ∀ n, Calls Try.prog 60 #[.slice A' l.length c1, .slice B' l.length d1] (wr.drewN n) fun e w' => e = .returned (.bool true) ∧ ∃ m, w' = (wr.drewN n).drewN m :=
        fun n => sameInts_drew A' B' c1 d1 l _ (hil.below (below_drewN (Below.refl _ _) n)) (hil'.below (below_drewN (Below.refl _ _) n)) hll
      clear hx hx'
      have hki : (0 : Int) ≤ (k : Int) := by omega
      have hki2 : (k : Int) < (F.length : Int) := by omega
      go_wp2
      go_quiet ((go_at_call 60; exact Calls.quiet_of (E _)))
      go_wp2
      go_roundw
      case rel => exact ⟨k + 1, by omega, by go_num, hd.more _⟩
      case measure => simp [intOf]; omega
    · go_wp2
      go_ret
      exact ⟨rfl, hd⟩

end Go.Proofs.Ytbkdhjmfphhhoaa

/- The reference model's unions by their contracts. -/
namespace Go.Proofs.Ytbkdhjmfphhhoaa
open Go.RowKit

def inEither (a b : List Int) (x : Int) : Bool := has a x || has b x
theorem union_upTo (a b : List Int) : upTo (inEither a b) 7 = union a b := rfl

set_option maxRecDepth 100000 in
set_option maxHeartbeats 1600000 in
theorem l1Union_any (A B : Option Addr) (c d : Nat) (a b : List Int) (w : World) (ha : IL w A a) (hb : IL w B b) (hla : a.length ≤ 1048576) (hlb : b.length ≤ 1048576) :
    Calls Try.prog 123 #[.slice A a.length c, .slice B b.length d] w (New w (union a b)) := by
  obtain ⟨i0, hi0, hz0, hz1, hz2⟩ := info_parts int_info
  go_enter Try.func123, Try.ntmps123
  go_wp2
  go_loopw [5, 6] (fun v i wr => ∃ k : Nat, 1 ≤ k ∧ k ≤ 7 ∧ i = .int .i64 k ∧ wr.ownsRow w.heap.size 3 1 v (upTo (inEither a b) k).length ((upTo (inEither a b) k).map (Value.int .i64)) ∧ Below w.heap.size w wr) (fun _ i _ => 7 - (intOf i).toNat)
  case atStart => exact ⟨1, by omega, by omega, rfl, World.ownsRow_made w #[] 0 (Nat.le_refl _) (Nat.zero_le _) rfl, (Below.refl _ _).alloc (Nat.le_refl _) _⟩
  case round =>
    obtain ⟨k, hk1, hk7, rfl, hown, hbel⟩ := hrel
    by_cases hlt : k < 7
    · have hln := upTo_len (inEither a b) k
      have hia := ha.below hbel
      have hib := hb.below hbel
      cases hca : has a (k : Int)
      · have HA := Lib.hid hca
        cases hcb : has b (k : Int)
        · have HP := Lib.hid (show inEither a b (k : Int) = false by simp only [inEither, hca, hcb, Bool.or_false])
          have HB := Lib.hid hcb
          clear hcb hca
          rw [← upTo_no hk1 HP.out] at hown
          have HO := Lib.hid hown
          clear hown
          go_wp2_with fail
          refine (l1Contains_f _ _ _ _ _ hia hla HA.out).mono ?_
          rintro e w' ⟨rfl, rfl⟩
          go_wp2_with fail
          refine (l1Contains_f _ _ _ _ _ hib hlb HB.out).mono ?_
          rintro e w' ⟨rfl, rfl⟩
          go_wp2
          go_roundw
          case rel => exact ⟨k + 1, by omega, by omega, by go_num, HO.out, hbel⟩
          case measure => simp [intOf]; omega
        · have HP := Lib.hid (show inEither a b (k : Int) = true by simp only [inEither, hca, hcb, Bool.or_true])
          have HB := Lib.hid hcb
          clear hcb hca
          go_wp2_with fail
          refine (l1Contains_f _ _ _ _ _ hia hla HA.out).mono ?_
          rintro e w' ⟨rfl, rfl⟩
          go_wp2_with fail
          refine (l1Contains_t _ _ _ _ _ hib hlb HB.out).mono ?_
          rintro e w' ⟨rfl, rfl⟩
          go_wp2_with (at_builtin; refine wpList_append_own _ rfl (.tmp 20) (.tmp 22) 37 rfl w.heap.size 3 i0 (.int .i64 0) 1 8 Try.underlying37 hi0 hz0 hz1 hz2 rfl (by decide) _ _ _ rfl (hown.alloc _) ⟨wr.heap.size, 0, none⟩ 1 1 [.int .i64 k] rfl rfl (cell_one_new _ _ _) (ints_oneCell .i64 [(k : Int)]) (by unfold maxLen; omega) (by omega) (by have := hbel.size; simp; omega) ?_)
          intro v' w1 hown' hgrow _
          have R := app_one hown hbel hown' hgrow
          rw [← upTo_yes hk1 HP.out] at R
          have HR := Lib.hid R
          clear R hown hown' hgrow hbel hia hib
          go_wp2
          go_roundw
          case rel => exact ⟨k + 1, by omega, by omega, by go_num, HR.out.1, HR.out.2⟩
          case measure => simp [intOf]; omega
      · have HP := Lib.hid (show inEither a b (k : Int) = true by simp only [inEither, hca, Bool.true_or])
        have HA := Lib.hid hca
        clear hca
        go_wp2_with fail
        refine (l1Contains_t _ _ _ _ _ hia hla HA.out).mono ?_
        rintro e w' ⟨rfl, rfl⟩
        go_wp2_with (at_builtin; refine wpList_append_own _ rfl (.tmp 20) (.tmp 22) 37 rfl w.heap.size 3 i0 (.int .i64 0) 1 8 Try.underlying37 hi0 hz0 hz1 hz2 rfl (by decide) _ _ _ rfl (hown.alloc _) ⟨wr.heap.size, 0, none⟩ 1 1 [.int .i64 k] rfl rfl (cell_one_new _ _ _) (ints_oneCell .i64 [(k : Int)]) (by unfold maxLen; omega) (by omega) (by have := hbel.size; simp; omega) ?_)
        intro v' w1 hown' hgrow _
        have R := app_one hown hbel hown' hgrow
        rw [← upTo_yes hk1 HP.out] at R
        have HR := Lib.hid R
        clear R hown hown' hgrow hbel hia hib
        go_wp2
        go_roundw
        case rel => exact ⟨k + 1, by omega, by omega, by go_num, HR.out.1, HR.out.2⟩
        case measure => simp [intOf]; omega
    · have hkl : k = 7 := by omega
      subst hkl
      rw [union_upTo] at hown
      have HN := Lib.hid (New.mk hown hbel)
      clear hown hbel
      go_wp2
      go_ret
      exact HN.out

set_option maxRecDepth 100000 in
set_option maxHeartbeats 1600000 in
theorem l1Intersect_any (A B : Option Addr) (c d : Nat) (a b : List Int) (w : World) (ha : IL w A a) (hb : IL w B b) (hla : a.length ≤ 1048576) (hlb : b.length ≤ 1048576) :
    Calls Try.prog 181 #[.slice A a.length c, .slice B b.length d] w (New w (inter a b)) := by
  obtain ⟨i0, hi0, hz0, hz1, hz2⟩ := info_parts int_info
  go_enter Try.func181, Try.ntmps181
  go_wp2
  go_loopw [5, 6] (fun v i wr => ∃ k : Nat, k ≤ a.length ∧ i = .int .i64 k ∧ wr.ownsRow w.heap.size 3 1 v (takeF (has b) a k).length ((takeF (has b) a k).map (Value.int .i64)) ∧ Below w.heap.size w wr) (fun _ i _ => a.length - (intOf i).toNat)
  case atStart => exact ⟨0, by omega, rfl, World.ownsRow_made w #[] 0 (Nat.le_refl _) (Nat.zero_le _) rfl, (Below.refl _ _).alloc (Nat.le_refl _) _⟩
  case round =>
    obtain ⟨k, hk, rfl, hown, hbel⟩ := hrel
    by_cases hlt : k < a.length
    · have hln := takeF_len (has b) a k
      have hia := ha.below hbel
      have hib := hb.below hbel
      obtain ⟨bl, off, x, rfl, hx, hc⟩ := hia.at_ hlt
      cases hcb : has b x
      · have HB := Lib.hid hcb
        rw [← takeF_no hx hcb] at hown
        have HO := Lib.hid hown
        clear hown hcb hx
        go_wp2_with fail
        refine (l1Contains_f _ _ _ _ _ hib hlb HB.out).mono ?_
        rintro e w' ⟨rfl, rfl⟩
        go_wp2
        go_roundw
        case rel => exact ⟨k + 1, by omega, by go_num, HO.out, hbel⟩
        case measure => simp [intOf]; omega
      · have HB := Lib.hid hcb
        have HX := Lib.hid hx
        clear hcb hx
        go_wp2_with fail
        refine (l1Contains_t _ _ _ _ _ hib hlb HB.out).mono ?_
        rintro e w' ⟨rfl, rfl⟩
        go_wp2_with (at_builtin; refine wpList_append_own _ rfl (.tmp 20) (.tmp 25) 37 rfl w.heap.size 3 i0 (.int .i64 0) 1 8 Try.underlying37 hi0 hz0 hz1 hz2 rfl (by decide) _ _ _ rfl (hown.alloc _) ⟨wr.heap.size, 0, none⟩ 1 1 [.int .i64 x] rfl rfl (cell_one_new _ _ _) (ints_oneCell .i64 [(x : Int)]) (by unfold maxLen; omega) (by omega) (by have := hbel.size; simp; omega) ?_)
        intro v' w1 hown' hgrow _
        have R := app_one hown hbel hown' hgrow
        rw [← takeF_yes HX.out HB.out] at R
        have HR := Lib.hid R
        clear R hown hown' hgrow hbel hia hib
        go_wp2
        go_roundw
        case rel => exact ⟨k + 1, by omega, by go_num, HR.out.1, HR.out.2⟩
        case measure => simp [intOf]; omega
    · have hkl : k = a.length := by omega
      subst hkl
      rw [takeF_all] at hown
      have HN := Lib.hid (New.mk (l := inter a b) hown hbel)
      clear hown hbel
      go_wp2
      go_ret
      exact HN.out

end Go.Proofs.Ytbkdhjmfphhhoaa

/- The program's set functions by their contracts. -/
namespace Go.Proofs.Ytbkdhjmfphhhoaa
open Go.RowKit

set_option maxRecDepth 100000 in
set_option maxHeartbeats 400000 in
theorem implValid_any (A : Option Addr) (c : Nat) (l : List Int) (w : World) (ha : IL w A l) (hl : l.length ≤ 1048576) :
    Calls Try.prog 125 #[.slice A l.length c] w fun e w' => e = .returned (.bool (vld l)) ∧ w = w' := by
  cases hv : vld l
  · go_enter Try.func125, Try.ntmps125
    go_wp2_with (go_at_call 143; refine (bitsOf_no _ _ _ _ ha hv hl).mono ?_; rintro e w' ⟨rfl, rfl⟩)
    go_ret
    exact ⟨rfl, rfl⟩
  · go_enter Try.func125, Try.ntmps125
    go_wp2_with (go_at_call 143; refine (bitsOf_yes _ _ _ _ ha hv).mono ?_; rintro e w' ⟨rfl, rfl⟩)
    go_ret
    exact ⟨rfl, rfl⟩

theorem or_two {s t : Nat} (hs : s < 64) (ht : t < 64) : bits .or .u8 (s : Int) (t : Int) = (((s ||| t) : Nat) : Int) ∧ (s ||| t) < 64 := by
  have H : ∀ s t : Fin 64, bits .or .u8 (s.val : Int) (t.val : Int) = (((s.val ||| t.val) : Nat) : Int) ∧ (s.val ||| t.val) < 64 := by decide +kernel
  exact H ⟨s, hs⟩ ⟨t, ht⟩

theorem and_two {s t : Nat} (hs : s < 64) (ht : t < 64) : bits .and .u8 (s : Int) (t : Int) = (((s &&& t) : Nat) : Int) ∧ (s &&& t) < 64 := by
  have H : ∀ s t : Fin 64, bits .and .u8 (s.val : Int) (t.val : Int) = (((s.val &&& t.val) : Nat) : Int) ∧ (s.val &&& t.val) < 64 := by decide +kernel
  exact H ⟨s, hs⟩ ⟨t, ht⟩

theorem andNot_two {s t : Nat} (hs : s < 64) (ht : t < 64) : bits .andNot .u8 (s : Int) (t : Int) = ((andNot s t : Nat) : Int) ∧ andNot s t < 64 := by
  have H : ∀ s t : Fin 64, bits .andNot .u8 (s.val : Int) (t.val : Int) = ((andNot s.val t.val : Nat) : Int) ∧ andNot s.val t.val < 64 := by decide +kernel
  exact H ⟨s, hs⟩ ⟨t, ht⟩

set_option maxRecDepth 100000 in
set_option maxHeartbeats 400000 in
theorem union_bits (s t : Nat) (w : World) (hs : s < 64) (ht : t < 64) :
    Calls Try.prog 176 #[.int .u8 s, .int .u8 t] w fun e w' => e = .returned (.int .u8 (s ||| t : Nat)) ∧ w = w' := by
  have HB := Lib.hid (or_two hs ht).1
  go_enter Try.func176, Try.ntmps176
  go_wp2
  go_ret
  exact ⟨ret_int HB.out, rfl⟩

set_option maxRecDepth 100000 in
set_option maxHeartbeats 400000 in
theorem minus_bits (s t : Nat) (w : World) (hs : s < 64) (ht : t < 64) :
    Calls Try.prog 161 #[.int .u8 s, .int .u8 t] w fun e w' => e = .returned (.int .u8 (andNot s t : Nat)) ∧ w = w' := by
  have HB := Lib.hid (andNot_two hs ht).1
  go_enter Try.func161, Try.ntmps161
  go_wp2
  go_ret
  exact ⟨ret_int HB.out, rfl⟩


set_option maxRecDepth 100000 in
set_option maxHeartbeats 400000 in
theorem subsetOf_bits (s t : Nat) (w : World) (hs : s < 64) (ht : t < 64) :
    Calls Try.prog 144 #[.int .u8 s, .int .u8 t] w fun e w' => e = .returned (.bool (andNot s t == 0)) ∧ w = w' := by
  have HE := Lib.hid (show (((andNot s t : Nat) : Int) == 0) = (andNot s t == 0) by rw [Bool.eq_iff_iff]; simp)
  go_enter Try.func144, Try.ntmps144
  go_wp2_with fail
  refine (minus_bits _ _ _ hs ht).mono ?_
  rintro e w' ⟨rfl, rfl⟩
  go_wp2
  go_ret
  exact ⟨ret_bool HE.out, rfl⟩
end Go.Proofs.Ytbkdhjmfphhhoaa

/- The reference model's set functions by their contracts. -/
namespace Go.Proofs.Ytbkdhjmfphhhoaa
open Go.RowKit

set_option maxRecDepth 100000 in
set_option maxHeartbeats 1600000 in
theorem specUnion_any (A B : Option Addr) (c d : Nat) (a b : List Int) (w : World) (ha : IL w A a) (hb : IL w B b) (hla : a.length ≤ 1048576) (hlb : b.length ≤ 1048576) :
    Calls Try.prog 124 #[.slice A a.length c, .slice B b.length d] w (New w (both union a b)) := by
  cases hva : vld a
  · rw [both_fa hva]
    have HA := Lib.hid hva
    clear hva
    go_enter Try.func124, Try.ntmps124
    go_wp2_with fail
    refine (specValid_f _ _ _ _ ha hla HA.out).mono ?_
    rintro e w1 ⟨rfl, b1⟩
    have HN := Lib.hid (New.made b1)
    clear b1
    go_wp2
    go_ret
    exact HN.out
  · have HA := Lib.hid hva
    cases hvb : vld b
    · rw [both_fb hvb]
      have HB := Lib.hid hvb
      clear hva hvb
      go_enter Try.func124, Try.ntmps124
      go_wp2_with fail
      refine (specValid_t _ _ _ _ ha hla HA.out).mono ?_
      rintro e w1 ⟨rfl, b1⟩
      go_wp2_with fail
      refine (specValid_f _ _ _ _ (hb.below b1) hlb HB.out).mono ?_
      rintro e w2 ⟨rfl, b2⟩
      have HN := Lib.hid (New.made (below_step b1 b2))
      clear b1 b2
      go_wp2
      go_ret
      exact HN.out
    · rw [both_t hva hvb]
      have HB := Lib.hid hvb
      clear hva hvb
      go_enter Try.func124, Try.ntmps124
      go_wp2_with fail
      refine (specValid_t _ _ _ _ ha hla HA.out).mono ?_
      rintro e w1 ⟨rfl, b1⟩
      go_wp2_with fail
      refine (specValid_t _ _ _ _ (hb.below b1) hlb HB.out).mono ?_
      rintro e w2 ⟨rfl, b2⟩
      have b3 := below_step b1 b2
      clear b1 b2
      go_wp2_with fail
      refine (l1Union_any _ _ _ _ _ _ _ (ha.below b3) (hb.below b3) hla hlb).mono ?_
      intro e w3 hn
      have hn2 := hn.later b3
      clear hn b3
      obtain ⟨A', c', rfl, ho, hbb⟩ := hn2
      have HN := Lib.hid (New.mk ho hbb)
      clear ho hbb
      go_wp2
      go_ret
      exact HN.out

/-- The empty row that was made first stays. -/
theorem made_kept {w w' : World} (hw : Below (w.alloc (.cells #[] 3)).heap.size (w.alloc (.cells #[] 3)) w') :
    w'.ownsRow w.heap.size 3 1 (.slice (some ⟨w.heap.size, 0, none⟩) 0 0) 0 [] ∧ Below w.heap.size w w' := by
  have o0 : (w.alloc (.cells #[] 3)).ownsRow w.heap.size 3 1 (.slice (some ⟨w.heap.size, 0, none⟩) 0 0) 0 [] := World.ownsRow_made w #[] 0 (Nat.le_refl _) (Nat.zero_le _) rfl
  exact ⟨o0.kept (row := none) ⟨hw.os, hw.tape, hw.output, hw.size, fun i hi _ => hw.block i hi⟩ (.inr (by simp [Value.ownBlock])), below_step ((Below.refl _ _).alloc (Nat.le_refl _) _) hw⟩
/-- Not in b. -/
def notIn (b : List Int) (x : Int) : Bool := !has b x

end Go.Proofs.Ytbkdhjmfphhhoaa

/- Copies and marks of slices of slices, by their contracts. -/
namespace Go.Proofs.Ytbkdhjmfphhhoaa
open Go.RowKit

theorem slice_info : (Try.prog.info? 37).map (fun i => (i.zero, i.size, i.bytes)) = some (some (.slice none 0 0), 1, 24) := by kernel_rfl
theorem ne_types : (37 : TypeId) ≠ 3 := by decide

/-- The rows that have been laid, nil behind. -/
def fillv (rs : List Value) (n : Nat) : List Value := rs ++ List.replicate (n - rs.length) (.slice none 0 0)
theorem fillv_set {rs : List Value} {n k : Nat} (v : Value) (hk : rs.length = k) (h : k < n) : (fillv rs n).set k v = fillv (rs ++ [v]) n := by
  subst hk
  unfold fillv
  rw [show n - rs.length = (n - (rs ++ [v]).length) + 1 by simp; omega, List.replicate_succ, List.set_append_right _ _ (by omega)]
  simp
theorem fillv_all {rs : List Value} {n : Nat} (h : rs.length = n) : fillv rs n = rs := by simp [fillv, h]
theorem fillv_none (n : Nat) : (madeCells #[Value.slice none 0 0] n).toList = fillv [] n := by
  simp [fillv, madeCells]
  apply List.ext_getElem
  · simp
  · intro i h1 h2; simp [Nat.mod_one]
/-- A store into a row of another type leaves the rows alone. -/
theorem Rws.store {w : World} {lo hi b : Nat} {T : TypeId} {cur : Array Value} {F : List (List Int)} {rs : List Value} (h : Rws w lo hi F rs) (hb : w.heap[b]? = some (.cells cur T (0, 0))) (hT : T ≠ 3) (hh : hi ≤ w.heap.size) (j : Nat) (v : Value) : Rws (w.setCell ⟨b, j, none⟩ v) lo hi F rs := by
  refine h.at_ (by simpa [World.setCell] using hh) fun g _ _ ⟨cur', hc⟩ => Below.heap_setCell w ⟨b, j, none⟩ v g ?_
  rintro rfl
  rw [hb] at hc
  injection hc with hc
  injection hc with _ hc
  exact hT hc
theorem RowAt.store {w : World} {lo hi b : Nat} {T : TypeId} {cur : Array Value} {l : List Int} {u : Value} (h : RowAt w lo hi l u) (hb : w.heap[b]? = some (.cells cur T (0, 0))) (hT : T ≠ 3) (j : Nat) (v : Value) : RowAt (w.setCell ⟨b, j, none⟩ v) lo hi l u := by
  have hh : hi ≤ w.heap.size := by obtain ⟨_, _, _, ho⟩ := h; exact ho.2.1
  have R : Rws w lo hi [l] [u] := ⟨rfl, fun k l' u' h1 h2 => by
    cases k with
    | zero => simp at h1 h2; subst h1 h2; exact h
    | succ k => simp at h1, by simp [Asc]⟩
  exact (R.store hb hT hh j v).2.1 0 l u rfl rfl
theorem own_cells {w : World} {base n : Nat} {e : TypeId} {v : Value} {xs : List Value} (h : w.ownsRow base e 1 v n xs) : ∀ g, v.ownBlock = some g → ∃ cur, w.heap[g]? = some (.cells cur e (0, 0)) := by
  intro g hg
  rcases h.2 with ⟨h0, _⟩ | ⟨g', cap, cur, hv, _, h5, _⟩
  · rw [h0] at hg; cases hg
  · rw [hv] at hg; cases hg; exact ⟨cur, h5⟩
theorem Rws.hi_le {w : World} {lo hi : Nat} {F : List (List Int)} {rs : List Value} (h : Rws w lo hi F rs) {hi2 : Nat} (h2 : hi ≤ hi2) (h3 : hi2 ≤ w.heap.size) : Rws w lo hi2 F rs := by
  refine ⟨h.1, fun j l v hl hv => ?_, h.2.2⟩
  obtain ⟨A, c, rfl, ho⟩ := h.2.1 j l v hl hv
  exact ⟨A, c, rfl, ho.mono (Nat.le_refl _) h2 h3⟩
theorem Rws.below {w w' : World} {lo hi : Nat} {F : List (List Int)} {rs : List Value} (h : Rws w lo hi F rs) (hh : hi ≤ w.heap.size) (hb : Below w.heap.size w w') : Rws w' lo hi F rs :=
  h.at_ (Nat.le_trans hh hb.size) fun g _ h2 _ => hb.block g (by omega)

/-- A round of the copy, as facts on memory. -/
theorem copy_step {w wr w1 : World} {g' : Nat} {F : List (List Int)} {rs : List Value} {k : Nat} {l : List Int} (hl : F[k]? = some l)
    (hown : wr.ownsRow w.heap.size 37 1 (.slice (some ⟨w.heap.size, 0, none⟩) F.length F.length) F.length (fillv rs F.length))
    (hrows : Rws wr w.heap.size wr.heap.size (F.take k) rs) (hbel : Below w.heap.size w wr)
    (ho : w1.ownsRow wr.heap.size 3 1 (.slice (some ⟨g', 0, none⟩) l.length l.length) l.length (l.map (Value.int .i64))) (hb1 : Below wr.heap.size wr w1) :
    (∃ u, w1.cell? ⟨w.heap.size, k, none⟩ = some u) ∧ w1.frozen? ⟨w.heap.size, k, none⟩ = false ∧
    (∀ W, W = w1.setCell ⟨w.heap.size, k, none⟩ (.slice (some ⟨g', 0, none⟩) l.length l.length) →
      W.ownsRow w.heap.size 37 1 (.slice (some ⟨w.heap.size, 0, none⟩) F.length F.length) F.length (fillv (rs ++ [.slice (some ⟨g', 0, none⟩) l.length l.length]) F.length) ∧
      Rws W w.heap.size W.heap.size (F.take (k + 1)) (rs ++ [.slice (some ⟨g', 0, none⟩) l.length l.length]) ∧ Below w.heap.size w W) := by
  have hk : k < F.length := (List.getElem?_eq_some_iff.1 hl).1
  have hown1 := hown.kept (row := none) (w' := w1) ⟨hb1.os, hb1.tape, hb1.output, hb1.size, fun i hi _ => hb1.block i hi⟩ (by right; simp [Value.ownBlock])
  obtain ⟨cur, hcur⟩ := own_cells hown1 w.heap.size rfl
  have hrl : rs.length = k := by rw [hrows.1]; simp; omega
  refine ⟨⟨_, (hown1.cellAt k (by omega)).trans (List.getElem?_eq_getElem (by have := hown1.1; omega))⟩, hown1.frozenAt k, ?_⟩
  rintro W rfl
  have hr1 := (hrows.below (Nat.le_refl _) hb1).store hcur ne_types hb1.size k (.slice (some ⟨g', 0, none⟩) l.length l.length)
  have hro : RowAt w1 wr.heap.size w1.heap.size l (.slice (some ⟨g', 0, none⟩) l.length l.length) := ⟨_, _, rfl, Own.of_new ho⟩
  have hro1 := hro.store hcur ne_types k (.slice (some ⟨g', 0, none⟩) l.length l.length)
  have hsz : (w1.setCell ⟨w.heap.size, k, none⟩ (.slice (some ⟨g', 0, none⟩) l.length l.length)).heap.size = w1.heap.size := by simp [World.setCell]
  refine ⟨?_, ?_, (below_step hbel hb1).setCell (Nat.le_refl _) _⟩
  · rw [← fillv_set _ hrl hk]
    exact (hown1.stored k _).1
  · rw [show F.take (k + 1) = F.take k ++ [l] by simp [List.take_add_one, hl], hsz]
    exact hr1.snoc hro1 (Nat.le_refl _) hbel.size hb1.size

set_option maxRecDepth 100000 in
set_option maxHeartbeats 800000 in
/-- A copy: the same rows in new memory. -/
theorem toIntSS_any (A : Option Addr) (c : Nat) (F : List (List Int)) (w : World) (ha : ISS w A F) (hl : F.length ≤ 1048576) (hs : Short F 1048576) :
    Calls Try.prog 85 #[.slice A F.length c] w fun e w' =>
      ∃ g, e = .returned (.slice (some ⟨g, 0, none⟩) F.length F.length) ∧ OSS w' w.heap.size w'.heap.size (some ⟨g, 0, none⟩) F.length F ∧ Below w.heap.size w w' := by
  obtain ⟨i0, hi0, hz0, hz1, hz2⟩ := info_parts slice_info
  go_enter Try.func85, Try.ntmps85
  go_wp2_with (at_make; refine wpList_make_full _ rfl (.tmp 6) (.tmp 6) 23 rfl w.heap.size 37 i0 (.slice none 0 0) 1 Try.underlying23 hi0 hz0 hz1 .i64 .i64 _ _ F.length rfl rfl rfl rfl (by rw [hz2]; omega) (by unfold maxLen; omega) (Nat.le_refl _) ?_)
  intro w1 hown hgrow
  rw [fillv_none] at hown
  have hb1 : Below w.heap.size w w1 := (Below.refl _ _).grown hgrow (Nat.le_refl _) (by simp)
  clear hgrow
  go_wp2
  go_loopw [4] (fun i wr => ∃ (k : Nat) (rs : List Value), k ≤ F.length ∧ i = .int .i64 k ∧ wr.ownsRow w.heap.size 37 1 (.slice (some ⟨w.heap.size, 0, none⟩) F.length F.length) F.length (fillv rs F.length) ∧ Rws wr w.heap.size wr.heap.size (F.take k) rs ∧ Below w.heap.size w wr) (fun i _ => F.length - (intOf i).toNat)
  case atStart => exact ⟨0, [], Nat.zero_le _, rfl, hown, by simpa using Rws.nil _ _ _, hb1⟩
  case round =>
    clear hown hb1
    obtain ⟨k, rs, hk, rfl, hown, hrows, hbel⟩ := hrel
    by_cases hlt : k < F.length
    · obtain ⟨b, off, l, B, d, rfl, hx, hc, hil⟩ := (ha.below hbel).at_ hlt
      have hll := hs.at_ hx
      have HX := Lib.hid hx
      clear hx
      have HR := Lib.hid (And.intro hown (And.intro hrows hbel))
      clear hown hrows hbel
      go_wp2_with fail
      refine (toIntS_any _ _ _ _ hil hll).mono ?_
      rintro e w2 ⟨g', rfl, ho, hb2⟩
      obtain ⟨⟨u, hu⟩, hfr, hst⟩ := copy_step HX.out HR.out.1 HR.out.2.1 HR.out.2.2 ho hb2
      have HS := Lib.hid (hst _ rfl)
      clear hst ho hb2 HR hc
      go_wp2
      go_roundw
      case rel => exact ⟨k + 1, _, by omega, by go_num, HS.out.1, HS.out.2.1, HS.out.2.2⟩
      case measure => simp [intOf]; omega
    · have hkl : k = F.length := by omega
      subst hkl
      rw [List.take_length] at hrows
      rw [fillv_all hrows.1] at hown
      have HR := Lib.hid (And.intro hown (And.intro hrows hbel))
      clear hown hrows hbel
      go_wp2
      go_ret
      exact ⟨_, rfl, ⟨rs, HR.out.1, Nat.le_refl _, fun g hg => by cases hg; exact ⟨Nat.le_refl _, (Array.getElem?_eq_some_iff.1 (own_cells HR.out.1 _ rfl).choose_spec).1⟩, HR.out.2.1⟩, HR.out.2.2⟩

/-- The marks of the rows, one behind the other. -/
def markSS : Nat → List (List Int) → List (List Int)
  | _, [] => []
  | k, l :: F => marks k l.length :: markSS (k + l.length) F
/-- Rws of which the first j bear their marks. -/
def mkTo (F : List (List Int)) (k j : Nat) : List (List Int) := markSS k (F.take j) ++ F.drop j
theorem markSS_len (F : List (List Int)) : ∀ k, (markSS k F).length = F.length := by
  induction F with
  | nil => intro k; rfl
  | cons l F ih => intro k; simp [markSS, ih]
theorem markSS_snoc (F : List (List Int)) (l : List Int) : ∀ k, markSS k (F ++ [l]) = markSS k F ++ [marks (k + wt F) l.length] := by
  induction F with
  | nil => intro k; simp [markSS, wt]
  | cons a F ih =>
    intro k
    simp only [List.cons_append, markSS, ih]
    congr 3
    simp [wt, Nat.add_assoc]
theorem markSS_at {F : List (List Int)} {j : Nat} {l : List Int} (h : F[j]? = some l) : ∀ k, (markSS k F)[j]? = some (marks (k + wt (F.take j)) l.length) := by
  induction F generalizing j with
  | nil => simp at h
  | cons a F ih =>
    intro k
    cases j with
    | zero => simp at h; subst h; simp [markSS, wt]
    | succ j =>
      simp at h
      simp only [markSS, List.getElem?_cons_succ, ih h, List.take_succ_cons]
      congr 2
      simp [wt, Nat.add_assoc]
theorem mkTo_zero (F : List (List Int)) (k : Nat) : mkTo F k 0 = F := by simp [mkTo, markSS]
theorem mkTo_all (F : List (List Int)) (k : Nat) : mkTo F k F.length = markSS k F := by simp [mkTo]
theorem mkTo_len (F : List (List Int)) (k j : Nat) : (mkTo F k j).length = F.length := by simp [mkTo, markSS_len]; omega
theorem mkTo_at {F : List (List Int)} {k j : Nat} {l : List Int} (h : F[j]? = some l) : (mkTo F k j)[j]? = some l := by
  have hj : j < F.length := (List.getElem?_eq_some_iff.1 h).1
  unfold mkTo
  rw [List.getElem?_append_right (by rw [markSS_len]; simp; omega), markSS_len]
  simp [Nat.min_eq_left (Nat.le_of_lt hj), h]
theorem mkTo_set {F : List (List Int)} {k j : Nat} {l : List Int} (h : F[j]? = some l) : mkTo F k (j + 1) = (mkTo F k j).set j (marks (k + wt (F.take j)) l.length) := by
  have hj : j < F.length := (List.getElem?_eq_some_iff.1 h).1
  unfold mkTo
  rw [show F.take (j + 1) = F.take j ++ [l] by simp [List.take_add_one, h], markSS_snoc, List.set_append_right _ _ (by rw [markSS_len]; simp; omega), markSS_len]
  simp only [List.length_take, Nat.min_eq_left (Nat.le_of_lt hj), Nat.sub_self]
  have : F.drop j = l :: F.drop (j + 1) := by
    rw [List.drop_eq_getElem_cons hj]; congr 1; exact Option.some.inj ((List.getElem?_eq_getElem hj).symm.trans h)
  rw [this]
  simp

theorem asc_ne {rs : List Value} (h : Asc rs) {i j : Nat} (hij : i ≠ j) {u v : Value} (hu : rs[i]? = some u) (hv : rs[j]? = some v) {g : Nat} (hg : u.ownBlock = some g) (hg' : v.ownBlock = some g) : False := by
  obtain ⟨hi, rfl⟩ := List.getElem?_eq_some_iff.1 hu
  obtain ⟨hj, rfl⟩ := List.getElem?_eq_some_iff.1 hv
  rcases Nat.lt_or_gt_of_ne hij with h1 | h1
  · exact Nat.lt_irrefl g (List.pairwise_iff_getElem.1 h i j hi hj h1 g g hg hg')
  · exact Nat.lt_irrefl g (List.pairwise_iff_getElem.1 h j i hj hi h1 g g hg' hg)

/-- One row is written over: the others stand. -/
theorem OSS.mark {w w' : World} {lo hi c : Nat} {A : Option Addr} {F : List (List Int)} {rs : List Value} {j : Nat} {l m : List Int} {B : Option Addr} {d : Nat}
    (ho : w.ownsRow lo 37 1 (.slice A F.length c) F.length rs) (hh : hi ≤ w.heap.size) (hr : Rws w lo hi F rs) (hl : F[j]? = some l) (hv : rs[j]? = some (.slice B l.length d)) (hm : m.length = l.length)
    (hw : w'.ownsRow lo 3 1 (.slice B l.length d) l.length (m.map (Value.int .i64))) (hg : w.grownBy w' (Value.slice B l.length d).ownBlock) :
    w'.ownsRow lo 37 1 (.slice A F.length c) F.length rs ∧ Rws w' lo hi (F.set j m) rs := by
  have hj : j < F.length := (List.getElem?_eq_some_iff.1 hl).1
  obtain ⟨B', d', e', hown⟩ := hr.2.1 j l _ hl hv
  injection e' with e1 _ e2
  subst e1 e2
  constructor
  · refine own_at ho fun g hg' => hg.block g (ho.lt g hg').2 fun e => ?_
    obtain ⟨cur, h1⟩ := own_cells ho g hg'
    obtain ⟨cur2, h2⟩ := own_cells hown.1 g e.symm
    rw [h1] at h2
    injection h2 with h2
    injection h2 with _ h2
    exact ne_types h2
  · refine ⟨by rw [List.length_set]; exact hr.1, fun i l' v hl' hv' => ?_, hr.2.2⟩
    by_cases hij : i = j
    · subst hij
      rw [List.getElem?_set_self hj] at hl'
      obtain rfl := Option.some.inj hl'
      rw [hv] at hv'
      obtain rfl := Option.some.inj hv'
      exact ⟨B, d, by rw [hm], by rw [hm]; exact hw, Nat.le_trans hh hg.size, fun g hg' => hown.2.2 g (by rw [hm] at hg'; exact hg')⟩
    · rw [List.getElem?_set_ne (fun e => hij e.symm)] at hl'
      obtain ⟨A', c', rfl, ho'⟩ := hr.2.1 i l' v hl' hv'
      refine ⟨A', c', rfl, ho'.at_ (Nat.le_trans hh hg.size) fun g h1 h2 h3 => hg.block g (by omega) fun e => ?_⟩
      exact asc_ne hr.2.2 hij hv' hv h3 e.symm

set_option maxRecDepth 100000 in
set_option maxHeartbeats 800000 in
/-- Marks are written into the rows, and nowhere else. -/
theorem markIntSS_own (lo hi : Nat) (A : Option Addr) (c : Nat) (F : List (List Int)) (k : Nat) (w : World) (ha : OSS w lo hi A c F) (hl : F.length ≤ 1048576) (hs : wt F ≤ 1048576) (hk : k ≤ 1048577) :
    Calls Try.prog 89 #[.slice A F.length c, .int .i64 k] w fun e w' =>
      e = .returned (.int .i64 (k + wt F : Nat)) ∧ OSS w' lo hi A c (markSS k F) ∧ Keep lo hi w w' := by
  obtain ⟨rs, ho, hh, hout, hr⟩ := ha
  have H0 := Lib.hid (And.intro ho (And.intro hh (And.intro hout hr)))
  clear ho hh hout hr
  go_enter Try.func89, Try.ntmps89
  go_wp2
  go_loopw [1, 5] (fun q i wr => ∃ j : Nat, j ≤ F.length ∧ i = .int .i64 j ∧ q = .int .i64 (k + wt (F.take j) : Nat) ∧ Hid (wr.ownsRow lo 37 1 (.slice A F.length c) F.length rs ∧ Rws wr lo hi (mkTo F k j) rs ∧ Keep lo hi w wr)) (fun _ i _ => F.length - (intOf i).toNat)
  case atStart => exact ⟨0, Nat.zero_le _, rfl, rfl, H0.out.1, by rw [mkTo_zero]; exact H0.out.2.2.2, Keep.refl _ _ _⟩
  case round =>
    obtain ⟨j, hj, rfl, rfl, hrest⟩ := hrel
    by_cases hlt : j < F.length
    · obtain ⟨l, hx⟩ : ∃ l, F[j]? = some l := ⟨_, List.getElem?_eq_getElem hlt⟩
      have hown := hrest.out.1
      have hrows := hrest.out.2.1
      obtain ⟨g, rfl, hbg, hg⟩ := own_form hown (by omega)
      obtain ⟨v, hv⟩ : ∃ v, rs[j]? = some v := ⟨_, List.getElem?_eq_getElem (by have := hown.1; omega)⟩
      obtain ⟨B, d, rfl, hB⟩ := hrows.2.1 j l v (mkTo_at hx) hv
      have hc : wr.cell? ⟨g, j, none⟩ = some (.slice B l.length d) := (hown.cellAt j (by omega)).trans hv
      have hw1 := wt_take hx
      have hw2 := wt_le F (j + 1)
      have hB1 := hB.1
      have HX := Lib.hid (And.intro hx hv)
      clear hx hv hown hrows hB
      go_wp2_with fail
      refine (markIntS_own _ _ _ _ _ _ hB1 (by omega) (by omega)).mono ?_
      rintro e w2 ⟨rfl, hm, hgr⟩
      have HS := Lib.hid (show w2.ownsRow lo 37 1 (.slice (some ⟨g, 0, none⟩) F.length c) F.length rs ∧ Rws w2 lo hi (mkTo F k (j + 1)) rs ∧ Keep lo hi w w2 by
        have h1 := hrest.out.1
        rw [← mkTo_len F k j] at h1
        have := OSS.mark h1 (Nat.le_trans H0.out.2.1 hrest.out.2.2.size) hrest.out.2.1 (mkTo_at HX.out.1) HX.out.2 (marks_len _ _) hm hgr
        rw [mkTo_len, ← mkTo_set HX.out.1] at this
        refine ⟨this.1, this.2, hrest.out.2.2.trans (Keep.of_grown hgr fun g' hg' => ?_)⟩
        obtain ⟨B', d', e', hB'⟩ := hrest.out.2.1.2.1 j l _ (mkTo_at HX.out.1) HX.out.2
        injection e' with e1 _ e2
        subst e1 e2
        exact hB'.2.2 g' hg')
      have hq : ((k + wt (F.take j) + l.length : Nat) : Int) = ((k + wt (F.take (j + 1)) : Nat) : Int) := by omega
      clear hm hgr hrest hc hB1
      go_wp2
      go_roundw
      case rel => exact ⟨j + 1, by omega, by go_num, (by refine congrArg (Value.int .i64) ?_; omega), HS.out⟩
      case measure => simp [intOf]; omega
    · have hkl : j = F.length := by omega
      subst hkl
      have HS := Lib.hid (show OSS wr lo hi A c (markSS k F) ∧ Keep lo hi w wr by
        have h := hrest.out
        rw [mkTo_all] at h
        exact ⟨⟨rs, by rw [markSS_len]; exact h.1, Nat.le_trans H0.out.2.1 h.2.2.size, fun g hg => H0.out.2.2.1 g (by rw [markSS_len] at hg; exact hg), h.2.1⟩, h.2.2⟩)
      clear hrest
      rw [List.take_length]
      go_wp2
      go_ret
      exact ⟨rfl, HS.out⟩

set_option maxRecDepth 100000 in
set_option maxHeartbeats 800000 in
/-- Rws of marks are found as they were written. -/
theorem heldIntSS_any (A : Option Addr) (c : Nat) (F : List (List Int)) (k : Nat) (w : World) (ha : ISS w A (markSS k F)) (hl : F.length ≤ 1048576) (hs : wt F ≤ 1048576) (hk : k ≤ 1048577) :
    Calls Try.prog 130 #[.slice A F.length c, .int .i64 k] w fun e w' => e = .returned (.int .i64 (k + wt F : Nat)) ∧ w = w' := by
  go_enter Try.func130, Try.ntmps130
  go_wp2
  go_loop [1, 5] (fun q i => ∃ j : Nat, j ≤ F.length ∧ i = .int .i64 j ∧ q = .int .i64 (k + wt (F.take j) : Nat)) (fun _ i => F.length - (intOf i).toNat)
  case atStart => exact ⟨0, Nat.zero_le _, rfl, rfl⟩
  case round =>
    obtain ⟨j, hj, rfl, rfl⟩ := hrel
    by_cases hlt : j < F.length
    · obtain ⟨l, hx⟩ : ∃ l, F[j]? = some l := ⟨_, List.getElem?_eq_getElem hlt⟩
      obtain ⟨b, off, l', B, d, rfl, hx', hc, hil⟩ := ha.at_ (k := j) (by rw [markSS_len]; exact hlt)
      rw [markSS_at hx] at hx'
      obtain rfl := Option.some.inj hx'
      rw [marks_len] at hc
      have hw1 := wt_take hx
      have hw2 := wt_le F (j + 1)
      have hq : ((k + wt (F.take j) + l.length : Nat) : Int) = ((k + wt (F.take (j + 1)) : Nat) : Int) := by omega
      clear hx hx'
      go_wp2_with fail
      refine (heldIntS_any _ _ _ _ _ hil (by omega) (by omega)).mono ?_
      rintro e w' ⟨rfl, rfl⟩
      have hpos : ¬ ((k + wt (F.take j) + l.length : Nat) : Int) < 0 := by omega
      go_wp2
      go_round
      case rel => exact ⟨j + 1, by omega, by go_num, (by refine congrArg (Value.int .i64) ?_; omega)⟩
      case measure => simp [intOf]; omega
    · have hkl : j = F.length := by omega
      subst hkl
      rw [List.take_length]
      go_wp2
      go_ret
      exact ⟨rfl, rfl⟩
end Go.Proofs.Ytbkdhjmfphhhoaa

/- SetOfMask, the model's and the program's, by their contracts. -/
namespace Go.Proofs.Ytbkdhjmfphhhoaa
open Go.RowKit

theorem New2.mk {w w' : World} {l : List Int} {b : Bool} {A : Option Addr} {c : Nat} (ho : w'.ownsRow w.heap.size 3 1 (.slice A l.length c) l.length (l.map (Value.int .i64))) (hb : Below w.heap.size w w') :
    New2 w l b (.returned (.tuple #[.slice A l.length c, .bool b])) w' := ⟨A, c, rfl, ho, hb⟩
theorem New2.made {w w1 : World} (hb : Below w.heap.size w w1) : New2 w [] false (.returned (.tuple #[.slice (some ⟨w1.heap.size, 0, none⟩) 0 0, .bool false])) (w1.alloc (.cells #[] 3)) :=
  ⟨_, 0, rfl, World.ownsRow_made w1 #[] 0 hb.size (Nat.zero_le _) rfl, hb.alloc hb.size _⟩
theorem New2.nil {w w' : World} (hb : Below w.heap.size w w') : New2 w [] false (.returned (.tuple #[.slice none 0 0, .bool false])) w' := ⟨none, 0, rfl, World.ownsRow_nil _ _ _ _, hb⟩

theorem l6In_yes' (n a b : Int) (w : World) (h1 : a ≤ n) (h2 : n ≤ b) :
    Calls Try.prog 66 #[.int .i64 n, .int .i64 a, .int .i64 b] w fun e w' => e = .returned (.bool true) ∧ w = w' := (l6In_yes n a b w h1 h2).mono fun _ _ h => ⟨h.1, h.2.symm⟩
theorem l6In_no' (n a b : Int) (w : World) (h : n < a ∨ b < n) :
    Calls Try.prog 66 #[.int .i64 n, .int .i64 a, .int .i64 b] w fun e w' => e = .returned (.bool false) ∧ w = w' := (l6In_no n a b w h).mono fun _ _ h => ⟨h.1, h.2.symm⟩

end Go.Proofs.Ytbkdhjmfphhhoaa

/- An argument of slices of slices, as the row's opening gives it. -/
namespace Go.Proofs.Ytbkdhjmfphhhoaa
open Go.RowKit

theorem il_take {w : World} {x : Addr} {L C : Nat} {zs : List Int} (hl : L ≤ C) (hz : zs.length = C) (hc : ∀ c, c < C → w.cell? (x.add c) = some (.int .i64 (zs.getD c 0))) : IL w (some x) (zs.take L) := by
  rcases Nat.eq_zero_or_pos L with h0 | h0
  · subst h0; left; simp
  · right
    obtain ⟨b, off, spot⟩ := x
    have hspot : spot = none := by simpa [Addr.add] using World.cell?_spot (hc 0 (by omega))
    subst hspot
    refine ⟨b, off, rfl, World.block_lt_of_cell? w _ (hc 0 (by omega)), fun j x hx => ?_⟩
    obtain ⟨hj, hx⟩ := List.getElem?_eq_some_iff.1 hx
    simp at hj hx
    have := hc j (by omega)
    rw [Addr.add_lit] at this
    rw [this]
    have : zs.getD j 0 = x := by rw [← hx]; simp [List.getD, show j < zs.length by omega]
    rw [this]

theorem iss_of_rows {w : World} {a : Addr} {len cap : Nat} {A : Nat → Option Addr} {L C : Nat → Nat} {Z : Nat → List Int} (hl : len ≤ cap)
    (h : ∀ r, r < cap → w.cell? (a.add r) = some (.slice (A r) (L r) (C r)) ∧ L r ≤ C r ∧ C r ≤ maxLen ∧ (Z r).length = C r ∧ (∀ n ∈ Z r, (Lit.int .i64 n).wf = true) ∧ (A r = none → C r = 0) ∧
        ∀ a', A r = some a' → 0 ≤ a'.block ∧ ∀ c, c < C r → w.cell? (a'.add c) = some (.int .i64 ((Z r).getD c 0))) :
    ∃ F : List (List Int), F.length = len ∧ ISS w (some a) F ∧ Short F maxLen := by
  refine ⟨(List.range len).map fun r => (Z r).take (L r), by simp, ?_, ?_⟩
  · rcases Nat.eq_zero_or_pos len with h0 | h0
    · subst h0; left; simp
    · right
      obtain ⟨b, off, spot⟩ := a
      have hspot : spot = none := by simpa [Addr.add] using World.cell?_spot (h 0 (by omega)).1
      subst hspot
      refine ⟨b, off, rfl, World.block_lt_of_cell? w _ (h 0 (by omega)).1, fun j l hj => ?_⟩
      have hr : j < len := by simpa using (List.getElem?_eq_some_iff.1 hj).1
      obtain rfl : (Z j).take (L j) = l := by simpa [hr] using hj
      generalize j = r at *
      obtain ⟨h1, h2, h3, h4, _, h6, h7⟩ := h r (by omega)
      rw [Addr.add_lit] at h1
      refine ⟨A r, C r, ?_, ?_⟩
      · rw [h1]
        simp [Nat.min_eq_left (show L r ≤ (Z r).length by omega)]
      · cases e : A r with
        | none =>
          have := h6 e
          left
          rw [show L r = 0 by omega]; simp
        | some a' => exact il_take h2 h4 (h7 a' e).2
  · intro l hl'
    obtain ⟨r, hr, rfl⟩ := List.mem_map.1 hl'
    have hr := List.mem_range.1 hr
    obtain ⟨_, h2, h3, h4, _⟩ := h r (by omega)
    simp
    omega
end Go.Proofs.Ytbkdhjmfphhhoaa

/- Marks in slices of slices, with a number that reads as a natural one. -/
namespace Go.Proofs.Ytbkdhjmfphhhoaa
open Go.RowKit

theorem markSS_i (lo hi : Nat) (A : Option Addr) (c : Nat) (F : List (List Int)) (k : Nat) (K : Int) (hK : K = (k : Int)) (w : World) (ha : OSS w lo hi A c F) (hl : F.length ≤ 1048576) (hs : wt F ≤ 1048576) (hk : k ≤ 1048577) :
    Calls Try.prog 89 #[.slice A F.length c, .int .i64 K] w fun e w' =>
      e = .returned (.int .i64 (K + wt F)) ∧ OSS w' lo hi A c (markSS k F) ∧ Keep lo hi w w' := by
  subst hK
  refine (markIntSS_own lo hi A c F k w ha hl hs hk).mono fun e w' ⟨he, h⟩ => ⟨?_, h⟩
  rw [he, Int.natCast_add]
theorem heldSS_i (A : Option Addr) (c : Nat) (F : List (List Int)) (k : Nat) (K : Int) (hK : K = (k : Int)) (w : World) (ha : ISS w A (markSS k F)) (hl : F.length ≤ 1048576) (hs : wt F ≤ 1048576) (hk : k ≤ 1048577) :
    Calls Try.prog 130 #[.slice A F.length c, .int .i64 K] w fun e w' => e = .returned (.int .i64 (K + wt F)) ∧ w = w' := by
  subst hK
  refine (heldIntSS_any A c F k w ha hl hs hk).mono fun e w' ⟨he, hw⟩ => ⟨?_, hw⟩
  rw [he, Int.natCast_add]

end Go.Proofs.Ytbkdhjmfphhhoaa
