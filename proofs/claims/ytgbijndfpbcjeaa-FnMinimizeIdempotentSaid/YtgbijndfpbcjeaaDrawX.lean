/- Drawn texts by their contracts. -/
import Derived.Test.YtgbijndfpbcjeaaDraw2
import Derived.Test.YtgbijndfpbcjeaaStr
import Derived.Deep.RegionHeld3
namespace Go.Proofs.Ytgbijndfpbcjeaa
open Go.RowKit

/-- A text that was drawn, of a size between lo and hi; only the reader's block has turned, and what is new. -/
def DrawnS (w : World) (g p k lo hi : Nat) (e : Ending) (w' : World) : Prop :=
  ∃ (x : ByteArray) (q : Nat), lo ≤ x.size ∧ x.size ≤ hi ∧ e = .returned (.string x) ∧ RdX w' g q ∧ q ≤ p + k ∧ w.grownBy w' (some g)
/-- The block b holds n texts of sizes between lo and hi. -/
def Texts (w : World) (b n lo hi : Nat) : Prop :=
  b < w.heap.size ∧ ∀ j, j < n → ∃ s : ByteArray, lo ≤ s.size ∧ s.size ≤ hi ∧ w.cell? ⟨b, j, none⟩ = some (.string s)
theorem Texts.grown {w w' : World} {b n lo hi : Nat} {row : Option Nat} (h : Texts w b n lo hi) (hg : w.grownBy w' row) (hr : row ≠ some b) : Texts w' b n lo hi :=
  ⟨Nat.lt_of_lt_of_le h.1 hg.size, fun j hj => by
    obtain ⟨s, h1, h2, h3⟩ := h.2 j hj
    exact ⟨s, h1, h2, (World.cell?_of_block (a := ⟨b, j, none⟩) (hg.block b h.1 (fun e => hr e.symm))).trans h3⟩⟩
theorem texts_new (w : World) (l : List ByteArray) (lo hi : Nat) (h : ∀ s ∈ l, lo ≤ s.size ∧ s.size ≤ hi) : Texts (w.alloc (.cells (l.map Value.string).toArray 9)) w.heap.size l.length lo hi := by
  refine ⟨by simp, fun j hj => ?_⟩
  obtain ⟨h1, h2⟩ := h l[j] (List.getElem_mem hj)
  refine ⟨l[j], h1, h2, ?_⟩
  rw [cell_of_row _ w.heap.size j _ _ (0, 0) (heap_alloc_new w _)]
  simp [hj]

set_option maxRecDepth 100000 in
set_option maxHeartbeats 800000 in
theorem ofX (g p b n lo hi : Nat) (w : World) (h : RdX w g p) (hp : p ≤ 900000) (hb : Texts w b n lo hi) (hlt : g < b) (h1 : 1 ≤ n) (h2 : n ≤ 1000) :
    Calls Try.prog 93 #[.pointer (some ⟨g, 0, none⟩), .slice (some ⟨b, 0, none⟩) n n] w (DrawnS w g p 1 lo hi) := by
  go_enter Try.func93, Try.ntmps93
  go_wp2_with fail
  refine (pickX _ _ (n : Int) _ h (by omega) (by omega) (by omega)).mono ?_
  rintro e w2 ⟨x, x0, x1, rfl, hr2, hg2⟩
  obtain ⟨i, rfl⟩ := Int.eq_ofNat_of_zero_le x0
  obtain ⟨s, s1, s2, hs⟩ := (hb.grown hg2 (by intro e; injection e with e; omega)).2 i (by omega)
  have D := Lib.hid (show DrawnS w g p 1 lo hi (.returned (.string s)) w2 from ⟨s, p + 1, s1, s2, rfl, hr2, Nat.le_refl _, hg2⟩)
  clear hr2 hg2 hb h
  go_wp2
  go_ret
  exact D.out

theorem grown_alloc0 (w : World) (o : Obj) (g : Nat) : w.grownBy (w.alloc o) (some g) := World.grownBy_alloc w o (some g)
theorem new_rd {w : World} {g p : Nat} (h : RdX w g p) (o : Obj) : RdX (w.alloc o) g p := h.below ((Below.refl _ _).alloc (Nat.le_refl _) _)
theorem DrawnS.from {w w1 : World} {g p k lo hi : Nat} {e : Ending} {w' : World} (hg : w.grownBy w1 (some g)) (h : DrawnS w1 g p k lo hi e w') : DrawnS w g p k lo hi e w' := by
  obtain ⟨x, q, h1, h2, h3, h4, h5, h6⟩ := h
  exact ⟨x, q, h1, h2, h3, h4, h5, grown_trans hg h6⟩

def leaves : List ByteArray := [⟨#[49]⟩, ⟨#[50]⟩, ⟨#[51]⟩, ⟨#[52]⟩, ⟨#[53]⟩, ⟨#[54]⟩]
set_option maxRecDepth 100000 in
set_option maxHeartbeats 800000 in
theorem l91Leaf_any (g p : Nat) (w : World) (h : RdX w g p) (hp : p ≤ 900000) :
    Calls Try.prog 92 #[.pointer (some ⟨g, 0, none⟩)] w (DrawnS w g p 1 1 1) := by
  have hlt := h.lt
  have HT := Lib.hid (texts_new w leaves 1 1 (by decide))
  have HR := Lib.hid (new_rd h (.cells (leaves.map Value.string).toArray 9))
  go_enter Try.func92, Try.ntmps92
  go_wp2_with fail
  refine (ofX g p w.heap.size 6 1 1 _ HR.out hp HT.out hlt (by omega) (by omega)).mono ?_
  rintro e w1 h1
  have HD := Lib.hid (h1.from (grown_alloc0 w _ g))
  obtain ⟨x, q, _, _, rfl, _⟩ := h1
  clear HT HR h
  go_wp2_with fail
  go_ret
  exact HD.out

theorem s_size (l : List UInt8) : (⟨l.toArray⟩ : ByteArray).size = l.length := by show l.toArray.size = _; simp
set_option maxRecDepth 100000 in
set_option maxHeartbeats 3200000 in
theorem l91List_any (g p b n lo hi : Nat) (w : World) (h : RdX w g p) (hp : p ≤ 900000) (hb : Texts w b n lo hi) (hlt : g < b) (h1 : 1 ≤ n) (h2 : n ≤ 8) (hh : hi ≤ 1000) :
    Calls Try.prog 94 #[.pointer (some ⟨g, 0, none⟩), .slice (some ⟨b, 0, none⟩) n n] w (DrawnS w g p 1 1 (3 + n * (hi + 1))) := by
  go_enter Try.func94, Try.ntmps94
  go_wp2_with fail
  refine (pickX _ _ (n : Int) _ h (by omega) (by omega) (by omega)).mono ?_
  rintro e w2 ⟨x, x0, x1, rfl, hr2, hg2⟩
  have hb2 := hb.grown hg2 (by intro e; injection e with e; omega)
  clear h hb
  go_wp2_with fail
  refine (l6Dec_digit _ _ (by omega) (by omega)).mono ?_
  rintro e w3 ⟨rfl, b3⟩
  have hr3 := hr2.below b3
  have hg3 := grown_below hg2 b3
  have hb3 := hb2.grown (row := none) ⟨b3.os, b3.tape, b3.output, b3.size, fun i hi _ => b3.block i hi⟩ (by simp)
  obtain ⟨D, hD⟩ : ∃ D : ByteArray, D = ⟨(dig (1 + x)).toArray⟩ := ⟨_, rfl⟩
  have hDs : D.size = 1 := by rw [hD, s_size]; simp [dig]
  rw [show S (dig (1 + x)) = Value.string D by rw [hD]]
  clear hr2 hg2 hb2 b3 hD
  go_wp2_with fail
  go_loopw [5, 6] (fun v i wr => ∃ (k : Nat) (s : ByteArray), k ≤ n ∧ i = .int .i64 k ∧ v = .string s ∧ 1 ≤ s.size ∧ s.size ≤ 2 + k * (hi + 1) ∧ wr = w3) (fun _ i _ => n - (intOf i).toNat)
  case atStart => exact ⟨0, _, Nat.zero_le _, rfl, rfl, by rw [ByteArray.size_append]; omega, by rw [ByteArray.size_append, hDs]; simp [ByteArray.size], rfl⟩
  case round =>
    obtain ⟨k, s, hk, rfl, rfl, hs1, hs2, rfl⟩ := hrel
    have hbd : k * (hi + 1) ≤ 8 * 1001 := Nat.mul_le_mul (by omega) (by omega)
    by_cases hlt2 : k < n
    · obtain ⟨t, t1, t2, ht⟩ := hb3.2 k hlt2
      have hm : (k + 1) * (hi + 1) = k * (hi + 1) + (hi + 1) := by rw [Nat.add_mul]; omega
      have HM := Lib.hid hm
      clear hm
      by_cases hk0 : k = 0
      · have hkd : ¬ 0 < k := by omega
        have H0 := Lib.hid hk0
        clear hk0
        go_wp2_with fail
        go_roundw
        case rel => exact ⟨k + 1, _, by omega, by go_num, rfl, by rw [ByteArray.size_append]; omega, by rw [ByteArray.size_append, HM.out]; omega, trivial⟩
        case measure => simp [intOf]; omega
      · have hkd : 0 < k := by omega
        clear hk0
        go_wp2_with fail
        go_roundw
        case rel => exact ⟨k + 1, _, by omega, by go_num, rfl, by rw [ByteArray.size_append, ByteArray.size_append]; omega, by rw [ByteArray.size_append, ByteArray.size_append, HM.out]; have : (⟨#[44]⟩ : ByteArray).size = 1 := rfl; omega, trivial⟩
        case measure => simp [intOf]; omega
    · have hkn : k = n := by omega
      subst hkn
      have H41 : (⟨#[41]⟩ : ByteArray).size = 1 := rfl
      have D := Lib.hid (show DrawnS w g p 1 1 (3 + k * (hi + 1)) (.returned (.string (s ++ ⟨#[41]⟩))) wr from ⟨_, p + 1, by rw [ByteArray.size_append]; omega, by rw [ByteArray.size_append]; omega, rfl, hr3, Nat.le_refl _, hg3⟩)
      clear hr3 hg3 hb3
      go_wp2_with fail
      go_ret
      exact D.out
theorem grown_allocD {a b : World} {row : Option Nat} (h : a.grownBy b row) (o : Obj) : a.grownBy (b.alloc o) row := grown_new h (World.grownBy_alloc b o none) (by simp)
end Go.Proofs.Ytgbijndfpbcjeaa
