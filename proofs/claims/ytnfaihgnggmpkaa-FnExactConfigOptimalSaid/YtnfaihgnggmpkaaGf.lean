/- Drawn vote assignments by their contracts. -/
import Derived.Test.YtnfaihgnggmpkaaGb
import Derived.Test.YtnfaihgnggmpkaaGe
import Derived.Deep.RegionHeld3
namespace Go.Proofs.Ytnfaihgnggmpkaa
open Go.RowKit

/-- Behind an append of one drawn number to a row of the call's own. -/
theorem step_app {w w3 w4 : World} {g q : Nat} {l : List Int} {v v' : Value} {x : Int} {o : Obj} (hlt : g < w.heap.size)
    (hg2 : w.grownBy w3 (some g)) (hr : RdX w3 g q) (hv : ∀ k, v.ownBlock = some k → w.heap.size ≤ k)
    (ho : w4.ownsRow w.heap.size 3 1 v' (l.length + 1) (l.map (Value.int .i64) ++ [.int .i64 x])) (hg : (w3.alloc o).grownBy w4 v.ownBlock) :
    ∃ A c, v' = .slice A (l ++ [x]).length c ∧ w4.ownsRow w.heap.size 3 1 (.slice A (l ++ [x]).length c) (l ++ [x]).length ((l ++ [x]).map (Value.int .i64)) ∧ RdX w4 g q ∧ w.grownBy w4 (some g) := by
  have hg3 : w3.grownBy w4 v.ownBlock := ⟨hg.os, hg.tape, hg.output, Nat.le_trans (by simp) hg.size, fun i hi hne => (hg.block i (by simp; omega) hne).trans (Below.heap_alloc w3 o i hi)⟩
  have h1 : w4.ownsRow w.heap.size 3 1 v' (l ++ [x]).length ((l ++ [x]).map (Value.int .i64)) := by simpa using ho
  obtain ⟨A, c, rfl⟩ := own_slice h1
  exact ⟨A, c, rfl, h1, hr.grown hg3 fun k hk => Nat.lt_of_lt_of_le hlt (hv k hk), grown_new hg2 hg3 hv⟩

/-- A drawn list of at most seven numbers. -/
def DrawnW (w : World) (g p : Nat) (e : Ending) (w' : World) : Prop :=
  ∃ (l : List Int) (A : Option Addr) (c q : Nat), l.length ≤ 7 ∧ e = .returned (.slice A l.length c) ∧ w'.ownsRow w.heap.size 3 1 (.slice A l.length c) l.length (l.map (Value.int .i64)) ∧ RdX w' g q ∧ q ≤ p + 10 ∧ w.grownBy w' (some g)

set_option maxRecDepth 100000 in
set_option maxHeartbeats 1600000 in
theorem l91Weights_any (g p : Nat) (w : World) (h : RdX w g p) (hp : p ≤ 900000) :
    Calls Try.prog 34 #[.pointer (some ⟨g, 0, none⟩)] w (DrawnW w g p) := by
  obtain ⟨i0, hi0, hz0, hz1, hz2⟩ := info_parts int_info
  have hlt := h.lt
  have hbm : Below w.heap.size w (w.alloc (.cells #[] 3)) := (Below.refl _ w).alloc (Nat.le_refl _) _
  have hr1 := h.below hbm
  have hg1 := World.grownBy_alloc w (.cells #[] 3) (some g)
  have ho1 : (w.alloc (.cells #[] 3)).ownsRow w.heap.size 3 1 (.slice (some ⟨w.heap.size, 0, none⟩) 0 0) 0 [] := World.ownsRow_made w #[] 0 (Nat.le_refl _) (by unfold maxLen; omega) (by simp)
  clear hbm h
  go_enter Try.func34, Try.ntmps34
  go_wp2_with fail
  generalize w.alloc (.cells #[] 3) = w1 at *
  refine (pickX _ _ 6 _ hr1 (by omega) (by omega) (by omega)).mono ?_
  rintro e w2 ⟨x, x0, x1, rfl, hr2, hg2⟩
  obtain ⟨m, rfl⟩ := Int.eq_ofNat_of_zero_le x0
  have H0 := Lib.hid (And.intro (kept_far ho1 hg2 hlt) (And.intro hr2 (grown_trans hg1 hg2)))
  clear ho1 hr1 hg1 hr2 hg2
  go_wp2
  go_loopw [3, 4] (fun v i wr => ∃ (l : List Int) (n q : Nat) (A : Option Addr) (c : Nat), i = .int .i64 n ∧ v = .slice A l.length c ∧ n + l.length ≤ 6 ∧ wr.ownsRow w.heap.size 3 1 (.slice A l.length c) l.length (l.map (Value.int .i64)) ∧ RdX wr g q ∧ q ≤ p + 1 + l.length ∧ w.grownBy wr (some g)) (fun _ i _ => (intOf i).toNat)
  case atStart => exact ⟨[], 1 + m, p + 1, _, _, by go_num, rfl, by simp; omega, H0.out.1, H0.out.2.1, by simp, H0.out.2.2⟩
  case round =>
    clear H0
    obtain ⟨l, n, q, A, c, rfl, rfl, hnl, hown, hrd, hq, hgr⟩ := hrel
    cases n with
    | succ n =>
      have hn0 : (0 : Int) < ((n + 1 : Nat) : Int) := by omega
      go_wp2_with fail
      refine (pickX _ _ 4 _ hrd (by omega) (by omega) (by omega)).mono ?_
      rintro e w3 ⟨y, y0, y1, rfl, hr3, hg3⟩
      have hown3 := kept_far hown hg3 hlt
      have hgr3 := grown_trans hgr hg3
      have hg3s := hgr3.size
      have hv : ∀ k, (Value.slice A l.length c).ownBlock = some k → w.heap.size ≤ k := fun k hk => (hown3.lt k hk).1
      clear hown hrd hgr hg3
      go_wp2_with (at_builtin; refine wpList_append_own _ rfl (.tmp 13) (.tmp 16) 47 rfl w.heap.size 3 i0 (.int .i64 0) 1 8 Try.underlying47 hi0 hz0 hz1 hz2 rfl (by decide) _ _ _ rfl (hown3.alloc _) ⟨w3.heap.size, 0, none⟩ 1 1 [.int .i64 y] rfl rfl (cell_one_new _ _ _) (ints_oneCell .i64 [(y : Int)]) (by unfold maxLen; omega) (by omega) (by simp; omega) ?_)
      intro v' w4 ho4 hg4 _
      obtain ⟨A4, c4, rfl, ho5, hr5, hg5⟩ := step_app hlt hgr3 hr3 hv ho4 hg4
      have D := Lib.hid (And.intro ho5 (And.intro hr5 hg5))
      have hll : (l ++ [y]).length = l.length + 1 := by simp
      have hn1 : ((n + 1 : Nat) : Int) - 1 = (n : Int) := by omega
      clear ho4 hg4 ho5 hr5 hg5 hown3 hr3 hgr3
      generalize l ++ [y] = l2 at *
      go_wp2
      go_roundw
      case rel => exact ⟨l2, n, q + 1, A4, c4, by go_num, rfl, by omega, D.out.1, D.out.2.1, by omega, D.out.2.2⟩
      case measure => simp [intOf]
    | zero =>
      go_wp2_with fail
      refine (pickX _ _ 40 _ hrd (by omega) (by omega) (by omega)).mono ?_
      rintro e w3 ⟨y, y0, y1, rfl, hr3, hg3⟩
      have hown3 := kept_far hown hg3 hlt
      have hgr3 := grown_trans hgr hg3
      have hg3s := hgr3.size
      have hv : ∀ k, (Value.slice A l.length c).ownBlock = some k → w.heap.size ≤ k := fun k hk => (hown3.lt k hk).1
      clear hown hrd hgr hg3
      by_cases hy : y = 0
      · have hyb : (y == 0) = true := by simpa using hy
        clear hy
        go_wp2_with (at_builtin; refine wpList_append_own _ rfl (.tmp 21) (.tmp 22) 47 rfl w.heap.size 3 i0 (.int .i64 0) 1 8 Try.underlying47 hi0 hz0 hz1 hz2 rfl (by decide) _ _ _ rfl (hown3.alloc _) ⟨w3.heap.size, 0, none⟩ 1 1 [.int .i64 10] rfl rfl (cell_one_new _ _ _) (ints_oneCell .i64 [(10 : Int)]) (by unfold maxLen; omega) (by omega) (by simp; omega) ?_)
        intro v' w4 ho4 hg4 _
        obtain ⟨A4, c4, rfl, ho5, hr5, hg5⟩ := step_app hlt hgr3 hr3 hv ho4 hg4
        have D := Lib.hid (show DrawnW w g p (.returned (.slice A4 (l ++ [10]).length c4)) w4 from ⟨l ++ [10], A4, c4, q + 1, by simp; omega, rfl, ho5, hr5, by omega, hg5⟩)
        clear ho4 hg4 ho5 hr5 hg5 hown3 hr3 hgr3
        go_wp2
        go_ret
        exact D.out
      · have hyb : (y == 0) = false := by simpa using hy
        have D := Lib.hid (show DrawnW w g p (.returned (.slice A l.length c)) w3 from ⟨l, A, c, q + 1, by omega, rfl, hown3, hr3, by omega, hgr3⟩)
        clear hy hown3 hr3 hgr3
        go_wp2
        go_ret
        exact D.out

/-- A drawn assignment and a drawn number. -/
def DrawnWN (w : World) (e : Ending) (w' : World) : Prop :=
  ∃ (v : List Int) (n : Int) (A : Option Addr) (c : Nat), v.length ≤ 7 ∧ 0 ≤ n ∧ n < 14 ∧ e = .returned (.tuple #[.slice A v.length c, .int .i64 n]) ∧ IL w' A v ∧ Below w.heap.size w w'

end Go.Proofs.Ytnfaihgnggmpkaa

/- Drawn texts by their contracts. -/
namespace Go.Proofs.Ytnfaihgnggmpkaa
open Go.RowKit

/-- A text that was drawn, of a size between lo and hi; only the reader's block has turned, and what is new. -/
def DrawnS (w : World) (g p k lo hi : Nat) (e : Ending) (w' : World) : Prop :=
  ∃ (x : ByteArray) (q : Nat), lo ≤ x.size ∧ x.size ≤ hi ∧ e = .returned (.string x) ∧ RdX w' g q ∧ q ≤ p + k ∧ w.grownBy w' (some g)
/-- The block b holds n texts of sizes between lo and hi. -/
def Texts (w : World) (b n lo hi : Nat) : Prop :=
  b < w.heap.size ∧ ∀ j, j < n → ∃ s : ByteArray, lo ≤ s.size ∧ s.size ≤ hi ∧ w.cell? ⟨b, j, none⟩ = some (.string s)
theorem Texts.grown {w w' : World} {b n lo hi : Nat} {row : Option Nat} (h : Texts w b n lo hi) (hg : w.grownBy w' row) (hr : row ≠ some b) : Texts w' b n lo hi :=
  ⟨Nat.lt_of_lt_of_le h.1 hg.size, fun j hj => by
    obtain ⟨s, h1, h2, h3⟩ := h.2 j hj
    exact ⟨s, h1, h2, (World.cell?_of_block (a := ⟨b, j, none⟩) (hg.block b h.1 (fun e => hr e.symm))).trans h3⟩⟩
theorem texts_new (w : World) (l : List ByteArray) (lo hi : Nat) (h : ∀ s ∈ l, lo ≤ s.size ∧ s.size ≤ hi) : Texts (w.alloc (.cells (l.map Value.string).toArray 9)) w.heap.size l.length lo hi := by
  refine ⟨by simp, fun j hj => ?_⟩
  obtain ⟨h1, h2⟩ := h l[j] (List.getElem_mem hj)
  refine ⟨l[j], h1, h2, ?_⟩
  rw [cell_of_row _ w.heap.size j _ _ (0, 0) (heap_alloc_new w _)]
  simp [hj]

set_option maxRecDepth 100000 in
set_option maxHeartbeats 800000 in
theorem ofX (g p b n lo hi : Nat) (w : World) (h : RdX w g p) (hp : p ≤ 900000) (hb : Texts w b n lo hi) (hlt : g < b) (h1 : 1 ≤ n) (h2 : n ≤ 1000) :
    Calls Try.prog 49 #[.pointer (some ⟨g, 0, none⟩), .slice (some ⟨b, 0, none⟩) n n] w (DrawnS w g p 1 lo hi) := by
  go_enter Try.func49, Try.ntmps49
  go_wp2_with fail
  refine (pickX _ _ (n : Int) _ h (by omega) (by omega) (by omega)).mono ?_
  rintro e w2 ⟨x, x0, x1, rfl, hr2, hg2⟩
  obtain ⟨i, rfl⟩ := Int.eq_ofNat_of_zero_le x0
  obtain ⟨s, s1, s2, hs⟩ := (hb.grown hg2 (by intro e; injection e with e; omega)).2 i (by omega)
  have D := Lib.hid (show DrawnS w g p 1 lo hi (.returned (.string s)) w2 from ⟨s, p + 1, s1, s2, rfl, hr2, Nat.le_refl _, hg2⟩)
  clear hr2 hg2 hb h
  go_wp2
  go_ret
  exact D.out

theorem grown_alloc0 (w : World) (o : Obj) (g : Nat) : w.grownBy (w.alloc o) (some g) := World.grownBy_alloc w o (some g)
theorem new_rd {w : World} {g p : Nat} (h : RdX w g p) (o : Obj) : RdX (w.alloc o) g p := h.below ((Below.refl _ _).alloc (Nat.le_refl _) _)
theorem DrawnS.from {w w1 : World} {g p k lo hi : Nat} {e : Ending} {w' : World} (hg : w.grownBy w1 (some g)) (h : DrawnS w1 g p k lo hi e w') : DrawnS w g p k lo hi e w' := by
  obtain ⟨x, q, h1, h2, h3, h4, h5, h6⟩ := h
  exact ⟨x, q, h1, h2, h3, h4, h5, grown_trans hg h6⟩

def leaves : List ByteArray := [⟨#[49]⟩, ⟨#[50]⟩, ⟨#[51]⟩, ⟨#[52]⟩, ⟨#[53]⟩, ⟨#[54]⟩]
set_option maxRecDepth 100000 in
set_option maxHeartbeats 800000 in
theorem l91Leaf_any (g p : Nat) (w : World) (h : RdX w g p) (hp : p ≤ 900000) :
    Calls Try.prog 48 #[.pointer (some ⟨g, 0, none⟩)] w (DrawnS w g p 1 1 1) := by
  have hlt := h.lt
  have HT := Lib.hid (texts_new w leaves 1 1 (by decide))
  have HR := Lib.hid (new_rd h (.cells (leaves.map Value.string).toArray 9))
  go_enter Try.func48, Try.ntmps48
  go_wp2_with fail
  refine (ofX g p w.heap.size 6 1 1 _ HR.out hp HT.out hlt (by omega) (by omega)).mono ?_
  rintro e w1 h1
  have HD := Lib.hid (h1.from (grown_alloc0 w _ g))
  obtain ⟨x, q, _, _, rfl, _⟩ := h1
  clear HT HR h
  go_wp2_with fail
  go_ret
  exact HD.out

theorem s_size (l : List UInt8) : (⟨l.toArray⟩ : ByteArray).size = l.length := by show l.toArray.size = _; simp
set_option maxRecDepth 100000 in
set_option maxHeartbeats 3200000 in
theorem l91List_any (g p b n lo hi : Nat) (w : World) (h : RdX w g p) (hp : p ≤ 900000) (hb : Texts w b n lo hi) (hlt : g < b) (h1 : 1 ≤ n) (h2 : n ≤ 8) (hh : hi ≤ 1000) :
    Calls Try.prog 50 #[.pointer (some ⟨g, 0, none⟩), .slice (some ⟨b, 0, none⟩) n n] w (DrawnS w g p 1 1 (3 + n * (hi + 1))) := by
  go_enter Try.func50, Try.ntmps50
  go_wp2_with fail
  refine (pickX _ _ (n : Int) _ h (by omega) (by omega) (by omega)).mono ?_
  rintro e w2 ⟨x, x0, x1, rfl, hr2, hg2⟩
  have hb2 := hb.grown hg2 (by intro e; injection e with e; omega)
  clear h hb
  go_wp2_with fail
  refine (l6Dec_digit _ _ (by omega) (by omega)).mono ?_
  rintro e w3 ⟨rfl, b3⟩
  have hr3 := hr2.below b3
  have hg3 := grown_below hg2 b3
  have hb3 := hb2.grown (row := none) ⟨b3.os, b3.tape, b3.output, b3.size, fun i hi _ => b3.block i hi⟩ (by simp)
  obtain ⟨D, hD⟩ : ∃ D : ByteArray, D = ⟨(dig (1 + x)).toArray⟩ := ⟨_, rfl⟩
  have hDs : D.size = 1 := by rw [hD, s_size]; simp [dig]
  rw [show S (dig (1 + x)) = Value.string D by rw [hD]]
  clear hr2 hg2 hb2 b3 hD
  go_wp2_with fail
  go_loopw [5, 6] (fun v i wr => ∃ (k : Nat) (s : ByteArray), k ≤ n ∧ i = .int .i64 k ∧ v = .string s ∧ 1 ≤ s.size ∧ s.size ≤ 2 + k * (hi + 1) ∧ wr = w3) (fun _ i _ => n - (intOf i).toNat)
  case atStart => exact ⟨0, _, Nat.zero_le _, rfl, rfl, by rw [ByteArray.size_append]; omega, by rw [ByteArray.size_append, hDs]; simp [ByteArray.size], rfl⟩
  case round =>
    obtain ⟨k, s, hk, rfl, rfl, hs1, hs2, rfl⟩ := hrel
    have hbd : k * (hi + 1) ≤ 8 * 1001 := Nat.mul_le_mul (by omega) (by omega)
    by_cases hlt2 : k < n
    · obtain ⟨t, t1, t2, ht⟩ := hb3.2 k hlt2
      have hm : (k + 1) * (hi + 1) = k * (hi + 1) + (hi + 1) := by rw [Nat.add_mul]; omega
      have HM := Lib.hid hm
      clear hm
      by_cases hk0 : k = 0
      · have hkd : ¬ 0 < k := by omega
        have H0 := Lib.hid hk0
        clear hk0
        go_wp2_with fail
        go_roundw
        case rel => exact ⟨k + 1, _, by omega, by go_num, rfl, by rw [ByteArray.size_append]; omega, by rw [ByteArray.size_append, HM.out]; omega, trivial⟩
        case measure => simp [intOf]; omega
      · have hkd : 0 < k := by omega
        clear hk0
        go_wp2_with fail
        go_roundw
        case rel => exact ⟨k + 1, _, by omega, by go_num, rfl, by rw [ByteArray.size_append, ByteArray.size_append]; omega, by rw [ByteArray.size_append, ByteArray.size_append, HM.out]; have : (⟨#[44]⟩ : ByteArray).size = 1 := rfl; omega, trivial⟩
        case measure => simp [intOf]; omega
    · have hkn : k = n := by omega
      subst hkn
      have H41 : (⟨#[41]⟩ : ByteArray).size = 1 := rfl
      have D := Lib.hid (show DrawnS w g p 1 1 (3 + k * (hi + 1)) (.returned (.string (s ++ ⟨#[41]⟩))) wr from ⟨_, p + 1, by rw [ByteArray.size_append]; omega, by rw [ByteArray.size_append]; omega, rfl, hr3, Nat.le_refl _, hg3⟩)
      clear hr3 hg3 hb3
      go_wp2_with fail
      go_ret
      exact D.out
theorem grown_allocD {a b : World} {row : Option Nat} (h : a.grownBy b row) (o : Obj) : a.grownBy (b.alloc o) row := grown_new h (World.grownBy_alloc b o none) (by simp)
end Go.Proofs.Ytnfaihgnggmpkaa

/- Drawn expressions by their contracts. -/
namespace Go.Proofs.Ytnfaihgnggmpkaa
open Go.RowKit

/-- A text of the reader's, with how far it has come. -/
def KX (w : World) (g p : Nat) (w' : World) : Prop := w.grownBy w' (some g) ∧ ∃ q, q ≤ p + 30 ∧ RdX w' g q
theorem KX.drew {w w' : World} {g p : Nat} (h : KX w g p w') : KX w g p w'.drew := ⟨only_drew h.1 1, by obtain ⟨q, h1, h2⟩ := h.2; exact ⟨q, h1, h2.below ((Below.refl _ _).drew)⟩⟩
theorem KX.alloc {w w' : World} {g p : Nat} (h : KX w g p w') (o : Obj) : KX w g p (w'.alloc o) := ⟨grown_allocD h.1 o, by obtain ⟨q, h1, h2⟩ := h.2; exact ⟨q, h1, new_rd h2 o⟩⟩
theorem kcK {w W W' : World} {g p q : Nat} (hg : W.grownBy W' (some g)) (hr : RdX W' g q) (hq : q ≤ p + 30) (h : KX w g p W) : KX w g p W' := ⟨grown_trans h.1 hg, q, hq, hr⟩
theorem cat0 {a q p : Nat} (h : q ≤ a + 1) (h2 : a ≤ p + 28) : q ≤ p + 30 := by omega
theorem catA {n z x : Nat} (hn : n + 1 ≤ z) (hz : z ≤ 40) (hx : x ≤ 1) : ¬ 9223372036854775807 < n + x := by omega
theorem catB {n z x : Nat} (hn : n + 1 ≤ z) (hz : z ≤ 40) (hx : x ≤ 1) : ¬ 9223372036854775807 < n + x + (z - (n + 1)) := by omega
theorem DrawnS.ofK {w w' : World} {g p : Nat} {x : ByteArray} (h : KX w g p w') (hx : x.size ≤ 60) : DrawnS w g p 30 0 60 (.returned (.string x)) w' := by
  obtain ⟨q, h1, h2⟩ := h.2
  exact ⟨x, q, Nat.zero_le _, hx, rfl, h2, h1, h.1⟩
def marksX : List ByteArray := [⟨#[48]⟩, ⟨#[40]⟩, ⟨#[41]⟩, ⟨#[44]⟩, ⟨#[55]⟩, ⟨#[]⟩]
def samples : List ByteArray := [⟨#[50, 40, 49, 44, 50, 44, 51, 41]⟩, ⟨#[51, 40, 49, 44, 50, 44, 51, 44, 52, 44, 53, 41]⟩, ⟨#[50, 40, 49, 40, 49, 44, 50, 41, 44, 49, 40, 51, 44, 52, 41, 41]⟩, ⟨#[49, 40, 50, 40, 49, 44, 50, 41, 44, 50, 40, 51, 44, 52, 41, 41]⟩, ⟨#[50, 40, 50, 40, 49, 44, 50, 44, 51, 41, 44, 50, 40, 52, 44, 53, 44, 54, 41, 41]⟩]

set_option maxRecDepth 100000 in
set_option maxHeartbeats 6400000 in
theorem l91Expr_any (g p : Nat) (w : World) (h : RdX w g p) (hp : p ≤ 1000) :
    Calls Try.prog 32 #[.pointer (some ⟨g, 0, none⟩)] w (DrawnS w g p 30 0 60) := by
  go_enter Try.func32, Try.ntmps32
  go_wp2_with fail
  refine (pickX _ _ 6 _ h (by omega) (by omega) (by omega)).mono ?_
  rintro e v0 ⟨u, u0, u1, rfl, r0, g0⟩
  clear h
  by_cases hu0 : u = 0
  · have hb0 : (u == 0) = true := by simpa using hu0
    clear hu0
    go_wp2_with fail
    refine (l91Leaf_any g _ _ r0 (by omega)).mono ?_
    rintro e v1 ⟨t1, q1, lt1, ut1, rfl, r1, hq1, hg1⟩
    have g1 := grown_trans g0 hg1
    clear hg1 g0 r0
    go_wp2_with fail
    refine (pickX _ _ 20 _ r1 (by omega) (by omega) (by omega)).mono ?_
    rintro e wz ⟨z, z0, z1, rfl, hrz, hgz⟩
    have gz := grown_trans g1 hgz
    clear hgz g1 r1
    by_cases hz : z = 0
    · have hzb : (z == 0) = true := by simpa using hz
      clear hz
      go_wp2_with fail
      refine (pickX _ _ (t1.size : Int) _ hrz (by omega) (by omega) (by omega)).mono ?_
      rintro e wy ⟨y, y0, y1, rfl, hry, hgy⟩
      obtain ⟨n, rfl⟩ := Int.eq_ofNat_of_zero_le y0
      have hn : n + 1 ≤ t1.size := by omega
      have gy := grown_trans gz hgy
      clear hgy gz hrz
      have hn0 : (0 : Int) ≤ (n : Int) := by omega
      have hn1 : (n : Int) ≤ (t1.size : Int) := by omega
      have hn2 : (0 : Int) ≤ (n : Int) + 1 := by omega
      have hn3 : (n : Int) + 1 ≤ (t1.size : Int) := by omega
      have hn4 : IntKind.i64.wrap ((n : Int) + 1) = (n : Int) + 1 := IntWalk.i64_in _ (by omega)
      have hn5 : n ≤ t1.size := by omega
      have K5 : KX w g p wy := ⟨gy, _, by omega, hry⟩
      have hqq : q1 + 1 + 1 ≤ p + 28 := by omega
      have hqb : q1 + 1 + 1 ≤ 900000 := by omega
      have hlty := hry.lt
      have hry' : RdX (wy.alloc (.cells (marksX.map Value.string).toArray 9)).drew g (q1 + 1 + 1) := hry.below (((Below.refl _ _).alloc (Nat.le_refl _) _).drew)
      have hby : Texts (wy.alloc (.cells (marksX.map Value.string).toArray 9)).drew wy.heap.size 6 0 1 := texts_new wy marksX 0 1 (by decide)
      have hbz : t1.size ≤ 40 := by omega
      have h16 : 1 ≤ 6 := by decide
      have h61 : 6 ≤ 1000 := by decide
      clear hry gy
      go_wp2
      go_region_held3 (fun w' => KX w g p w')
        (first | assumption | exact K5.drew | exact (K5.alloc _).drew | (apply kcK g6 hr6 f0; assumption) | fail)
        (first
          | (go_at_call 49; refine (ofX g (q1 + 1 + 1) wy.heap.size 6 0 1 _ hry' hqb hby hlty h16 h61).mono ?_; rintro e w6 ⟨xs, q6, lo6, hx1, rfl, hr6, hq6, g6⟩; have f0 := cat0 hq6 hqq; have f1 := catA hn hbz hx1; have f2 := catB hn hbz hx1)
          | fail)
      all_goals go_wp2
      all_goals go_ret
      all_goals exact DrawnS.ofK (by assumption) (by simp [ByteArray.size_append, ByteArray.size_extract]; omega)
    · have hzb : (z == 0) = false := by simpa using hz
      have D := Lib.hid (show DrawnS w g p 30 0 60 (.returned (.string t1)) wz from ⟨_, _, by omega, by omega, rfl, hrz, by omega, gz⟩)
      clear hz hrz gz
      go_wp2_with fail
      go_ret
      exact D.out
  · have hb0 : (u == 0) = false := by simpa using hu0
    by_cases hu1 : u = 1
    · have hb1 : (u == 1) = true := by simpa using hu1
      clear hu1 hu0
      have T1 := texts_new v0 samples 1 20 (by decide)
      have R1 := new_rd r0 (.cells (samples.map Value.string).toArray 9)
      have G1 := grown_allocD g0 (.cells (samples.map Value.string).toArray 9)
      have ltl := r0.lt
      clear r0 g0
      go_wp2_with fail
      refine (ofX g _ v0.heap.size 5 1 20 _ R1 (by omega) T1 ltl (by omega) (by omega)).mono ?_
      rintro e v1 ⟨t1, q1, lt1, ut1, rfl, r1, hq1, hg1⟩
      have g1 := grown_trans G1 hg1
      clear hg1 G1 R1 T1
      go_wp2_with fail
      refine (pickX _ _ 20 _ r1 (by omega) (by omega) (by omega)).mono ?_
      rintro e wz ⟨z, z0, z1, rfl, hrz, hgz⟩
      have gz := grown_trans g1 hgz
      clear hgz g1 r1
      by_cases hz : z = 0
      · have hzb : (z == 0) = true := by simpa using hz
        clear hz
        go_wp2_with fail
        refine (pickX _ _ (t1.size : Int) _ hrz (by omega) (by omega) (by omega)).mono ?_
        rintro e wy ⟨y, y0, y1, rfl, hry, hgy⟩
        obtain ⟨n, rfl⟩ := Int.eq_ofNat_of_zero_le y0
        have hn : n + 1 ≤ t1.size := by omega
        have gy := grown_trans gz hgy
        clear hgy gz hrz
        have hn0 : (0 : Int) ≤ (n : Int) := by omega
        have hn1 : (n : Int) ≤ (t1.size : Int) := by omega
        have hn2 : (0 : Int) ≤ (n : Int) + 1 := by omega
        have hn3 : (n : Int) + 1 ≤ (t1.size : Int) := by omega
        have hn4 : IntKind.i64.wrap ((n : Int) + 1) = (n : Int) + 1 := IntWalk.i64_in _ (by omega)
        have hn5 : n ≤ t1.size := by omega
        have K5 : KX w g p wy := ⟨gy, _, by omega, hry⟩
        have hqq : q1 + 1 + 1 ≤ p + 28 := by omega
        have hqb : q1 + 1 + 1 ≤ 900000 := by omega
        have hlty := hry.lt
        have hry' : RdX (wy.alloc (.cells (marksX.map Value.string).toArray 9)).drew g (q1 + 1 + 1) := hry.below (((Below.refl _ _).alloc (Nat.le_refl _) _).drew)
        have hby : Texts (wy.alloc (.cells (marksX.map Value.string).toArray 9)).drew wy.heap.size 6 0 1 := texts_new wy marksX 0 1 (by decide)
        have hbz : t1.size ≤ 40 := by omega
        have h16 : 1 ≤ 6 := by decide
        have h61 : 6 ≤ 1000 := by decide
        clear hry gy
        go_wp2
        go_region_held3 (fun w' => KX w g p w')
          (first | assumption | exact K5.drew | exact (K5.alloc _).drew | (apply kcK g6 hr6 f0; assumption) | fail)
          (first
            | (go_at_call 49; refine (ofX g (q1 + 1 + 1) wy.heap.size 6 0 1 _ hry' hqb hby hlty h16 h61).mono ?_; rintro e w6 ⟨xs, q6, lo6, hx1, rfl, hr6, hq6, g6⟩; have f0 := cat0 hq6 hqq; have f1 := catA hn hbz hx1; have f2 := catB hn hbz hx1)
            | fail)
        all_goals go_wp2
        all_goals go_ret
        all_goals exact DrawnS.ofK (by assumption) (by simp [ByteArray.size_append, ByteArray.size_extract]; omega)
      · have hzb : (z == 0) = false := by simpa using hz
        have D := Lib.hid (show DrawnS w g p 30 0 60 (.returned (.string t1)) wz from ⟨_, _, by omega, by omega, rfl, hrz, by omega, gz⟩)
        clear hz hrz gz
        go_wp2_with fail
        go_ret
        exact D.out
    · have hb1 : (u == 1) = false := by simpa using hu1
      by_cases hu23 : u = 2 ∨ u = 3
      · rcases hu23 with hu2 | hu3
        · have hb2 : (u == 2) = true := by simpa using hu2
          clear hu2 hu1 hu0
          go_wp2_with fail
          refine (l91Leaf_any g _ _ r0 (by omega)).mono ?_
          rintro e v1 ⟨t1, q1, lt1, ut1, rfl, r1, hq1, hg1⟩
          have g1 := grown_trans g0 hg1
          clear hg1 g0 r0
          go_wp2_with fail
          refine (l91Leaf_any g _ _ r1 (by omega)).mono ?_
          rintro e v2 ⟨t2, q2, lt2, ut2, rfl, r2, hq2, hg2⟩
          have g2 := grown_trans g1 hg2
          clear hg2 g1 r1
          go_wp2_with fail
          refine (l91Leaf_any g _ _ r2 (by omega)).mono ?_
          rintro e v3 ⟨t3, q3, lt3, ut3, rfl, r3, hq3, hg3⟩
          have g3 := grown_trans g2 hg3
          clear hg3 g2 r2
          have T4 := texts_new v3 [t1, t2, t3] 1 1 (by simp; omega)
          have R4 := new_rd r3 (.cells ([t1, t2, t3].map Value.string).toArray 9)
          have G4 := grown_allocD g3 (.cells ([t1, t2, t3].map Value.string).toArray 9)
          have ltl4 := r3.lt
          clear r3 g3
          go_wp2_with fail
          refine (l91List_any g _ v3.heap.size 3 1 1 _ R4 (by omega) T4 ltl4 (by omega) (by omega) (by omega)).mono ?_
          rintro e v4 ⟨t4, q4, lt4, ut4, rfl, r4, hq4, hg4⟩
          have g4 := grown_trans G4 hg4
          clear hg4 G4 R4 T4
          go_wp2_with fail
          refine (pickX _ _ 20 _ r4 (by omega) (by omega) (by omega)).mono ?_
          rintro e wz ⟨z, z0, z1, rfl, hrz, hgz⟩
          have gz := grown_trans g4 hgz
          clear hgz g4 r4
          by_cases hz : z = 0
          · have hzb : (z == 0) = true := by simpa using hz
            clear hz
            go_wp2_with fail
            refine (pickX _ _ (t4.size : Int) _ hrz (by omega) (by omega) (by omega)).mono ?_
            rintro e wy ⟨y, y0, y1, rfl, hry, hgy⟩
            obtain ⟨n, rfl⟩ := Int.eq_ofNat_of_zero_le y0
            have hn : n + 1 ≤ t4.size := by omega
            have gy := grown_trans gz hgy
            clear hgy gz hrz
            have hn0 : (0 : Int) ≤ (n : Int) := by omega
            have hn1 : (n : Int) ≤ (t4.size : Int) := by omega
            have hn2 : (0 : Int) ≤ (n : Int) + 1 := by omega
            have hn3 : (n : Int) + 1 ≤ (t4.size : Int) := by omega
            have hn4 : IntKind.i64.wrap ((n : Int) + 1) = (n : Int) + 1 := IntWalk.i64_in _ (by omega)
            have hn5 : n ≤ t4.size := by omega
            have K5 : KX w g p wy := ⟨gy, _, by omega, hry⟩
            have hqq : q4 + 1 + 1 ≤ p + 28 := by omega
            have hqb : q4 + 1 + 1 ≤ 900000 := by omega
            have hlty := hry.lt
            have hry' : RdX (wy.alloc (.cells (marksX.map Value.string).toArray 9)).drew g (q4 + 1 + 1) := hry.below (((Below.refl _ _).alloc (Nat.le_refl _) _).drew)
            have hby : Texts (wy.alloc (.cells (marksX.map Value.string).toArray 9)).drew wy.heap.size 6 0 1 := texts_new wy marksX 0 1 (by decide)
            have hbz : t4.size ≤ 40 := by omega
            have h16 : 1 ≤ 6 := by decide
            have h61 : 6 ≤ 1000 := by decide
            clear hry gy
            go_wp2
            go_region_held3 (fun w' => KX w g p w')
              (first | assumption | exact K5.drew | exact (K5.alloc _).drew | (apply kcK g6 hr6 f0; assumption) | fail)
              (first
                | (go_at_call 49; refine (ofX g (q4 + 1 + 1) wy.heap.size 6 0 1 _ hry' hqb hby hlty h16 h61).mono ?_; rintro e w6 ⟨xs, q6, lo6, hx1, rfl, hr6, hq6, g6⟩; have f0 := cat0 hq6 hqq; have f1 := catA hn hbz hx1; have f2 := catB hn hbz hx1)
                | fail)
            all_goals go_wp2
            all_goals go_ret
            all_goals exact DrawnS.ofK (by assumption) (by simp [ByteArray.size_append, ByteArray.size_extract]; omega)
          · have hzb : (z == 0) = false := by simpa using hz
            have D := Lib.hid (show DrawnS w g p 30 0 60 (.returned (.string t4)) wz from ⟨_, _, by omega, by omega, rfl, hrz, by omega, gz⟩)
            clear hz hrz gz
            go_wp2_with fail
            go_ret
            exact D.out
        · have hb2 : (u == 2) = false := by simp; omega
          have hb3 : (u == 3) = true := by simpa using hu3
          clear hu3 hu1 hu0
          go_wp2_with fail
          refine (l91Leaf_any g _ _ r0 (by omega)).mono ?_
          rintro e v1 ⟨t1, q1, lt1, ut1, rfl, r1, hq1, hg1⟩
          have g1 := grown_trans g0 hg1
          clear hg1 g0 r0
          go_wp2_with fail
          refine (l91Leaf_any g _ _ r1 (by omega)).mono ?_
          rintro e v2 ⟨t2, q2, lt2, ut2, rfl, r2, hq2, hg2⟩
          have g2 := grown_trans g1 hg2
          clear hg2 g1 r1
          go_wp2_with fail
          refine (l91Leaf_any g _ _ r2 (by omega)).mono ?_
          rintro e v3 ⟨t3, q3, lt3, ut3, rfl, r3, hq3, hg3⟩
          have g3 := grown_trans g2 hg3
          clear hg3 g2 r2
          have T4 := texts_new v3 [t1, t2, t3] 1 1 (by simp; omega)
          have R4 := new_rd r3 (.cells ([t1, t2, t3].map Value.string).toArray 9)
          have G4 := grown_allocD g3 (.cells ([t1, t2, t3].map Value.string).toArray 9)
          have ltl4 := r3.lt
          clear r3 g3
          go_wp2_with fail
          refine (l91List_any g _ v3.heap.size 3 1 1 _ R4 (by omega) T4 ltl4 (by omega) (by omega) (by omega)).mono ?_
          rintro e v4 ⟨t4, q4, lt4, ut4, rfl, r4, hq4, hg4⟩
          have g4 := grown_trans G4 hg4
          clear hg4 G4 R4 T4
          go_wp2_with fail
          refine (pickX _ _ 20 _ r4 (by omega) (by omega) (by omega)).mono ?_
          rintro e wz ⟨z, z0, z1, rfl, hrz, hgz⟩
          have gz := grown_trans g4 hgz
          clear hgz g4 r4
          by_cases hz : z = 0
          · have hzb : (z == 0) = true := by simpa using hz
            clear hz
            go_wp2_with fail
            refine (pickX _ _ (t4.size : Int) _ hrz (by omega) (by omega) (by omega)).mono ?_
            rintro e wy ⟨y, y0, y1, rfl, hry, hgy⟩
            obtain ⟨n, rfl⟩ := Int.eq_ofNat_of_zero_le y0
            have hn : n + 1 ≤ t4.size := by omega
            have gy := grown_trans gz hgy
            clear hgy gz hrz
            have hn0 : (0 : Int) ≤ (n : Int) := by omega
            have hn1 : (n : Int) ≤ (t4.size : Int) := by omega
            have hn2 : (0 : Int) ≤ (n : Int) + 1 := by omega
            have hn3 : (n : Int) + 1 ≤ (t4.size : Int) := by omega
            have hn4 : IntKind.i64.wrap ((n : Int) + 1) = (n : Int) + 1 := IntWalk.i64_in _ (by omega)
            have hn5 : n ≤ t4.size := by omega
            have K5 : KX w g p wy := ⟨gy, _, by omega, hry⟩
            have hqq : q4 + 1 + 1 ≤ p + 28 := by omega
            have hqb : q4 + 1 + 1 ≤ 900000 := by omega
            have hlty := hry.lt
            have hry' : RdX (wy.alloc (.cells (marksX.map Value.string).toArray 9)).drew g (q4 + 1 + 1) := hry.below (((Below.refl _ _).alloc (Nat.le_refl _) _).drew)
            have hby : Texts (wy.alloc (.cells (marksX.map Value.string).toArray 9)).drew wy.heap.size 6 0 1 := texts_new wy marksX 0 1 (by decide)
            have hbz : t4.size ≤ 40 := by omega
            have h16 : 1 ≤ 6 := by decide
            have h61 : 6 ≤ 1000 := by decide
            clear hry gy
            go_wp2
            go_region_held3 (fun w' => KX w g p w')
              (first | assumption | exact K5.drew | exact (K5.alloc _).drew | (apply kcK g6 hr6 f0; assumption) | fail)
              (first
                | (go_at_call 49; refine (ofX g (q4 + 1 + 1) wy.heap.size 6 0 1 _ hry' hqb hby hlty h16 h61).mono ?_; rintro e w6 ⟨xs, q6, lo6, hx1, rfl, hr6, hq6, g6⟩; have f0 := cat0 hq6 hqq; have f1 := catA hn hbz hx1; have f2 := catB hn hbz hx1)
                | fail)
            all_goals go_wp2
            all_goals go_ret
            all_goals exact DrawnS.ofK (by assumption) (by simp [ByteArray.size_append, ByteArray.size_extract]; omega)
          · have hzb : (z == 0) = false := by simpa using hz
            have D := Lib.hid (show DrawnS w g p 30 0 60 (.returned (.string t4)) wz from ⟨_, _, by omega, by omega, rfl, hrz, by omega, gz⟩)
            clear hz hrz gz
            go_wp2_with fail
            go_ret
            exact D.out
      · have hb2 : (u == 2) = false := by simp; omega
        have hb3 : (u == 3) = false := by simp; omega
        clear hu23 hu1 hu0
        go_wp2_with fail
        refine (l91Leaf_any g _ _ r0 (by omega)).mono ?_
        rintro e v1 ⟨t1, q1, lt1, ut1, rfl, r1, hq1, hg1⟩
        have g1 := grown_trans g0 hg1
        clear hg1 g0 r0
        go_wp2_with fail
        refine (l91Leaf_any g _ _ r1 (by omega)).mono ?_
        rintro e v2 ⟨t2, q2, lt2, ut2, rfl, r2, hq2, hg2⟩
        have g2 := grown_trans g1 hg2
        clear hg2 g1 r1
        have T3 := texts_new v2 [t1, t2] 1 1 (by simp; omega)
        have R3 := new_rd r2 (.cells ([t1, t2].map Value.string).toArray 9)
        have G3 := grown_allocD g2 (.cells ([t1, t2].map Value.string).toArray 9)
        have ltl3 := r2.lt
        clear r2 g2
        go_wp2_with fail
        refine (l91List_any g _ v2.heap.size 2 1 1 _ R3 (by omega) T3 ltl3 (by omega) (by omega) (by omega)).mono ?_
        rintro e v3 ⟨t3, q3, lt3, ut3, rfl, r3, hq3, hg3⟩
        have g3 := grown_trans G3 hg3
        clear hg3 G3 R3 T3
        go_wp2_with fail
        refine (l91Leaf_any g _ _ r3 (by omega)).mono ?_
        rintro e v4 ⟨t4, q4, lt4, ut4, rfl, r4, hq4, hg4⟩
        have g4 := grown_trans g3 hg4
        clear hg4 g3 r3
        go_wp2_with fail
        refine (l91Leaf_any g _ _ r4 (by omega)).mono ?_
        rintro e v5 ⟨t5, q5, lt5, ut5, rfl, r5, hq5, hg5⟩
        have g5 := grown_trans g4 hg5
        clear hg5 g4 r4
        go_wp2_with fail
        refine (l91Leaf_any g _ _ r5 (by omega)).mono ?_
        rintro e v6 ⟨t6, q6, lt6, ut6, rfl, r6, hq6, hg6⟩
        have g6 := grown_trans g5 hg6
        clear hg6 g5 r5
        have T7 := texts_new v6 [t4, t5, t6] 1 1 (by simp; omega)
        have R7 := new_rd r6 (.cells ([t4, t5, t6].map Value.string).toArray 9)
        have G7 := grown_allocD g6 (.cells ([t4, t5, t6].map Value.string).toArray 9)
        have ltl7 := r6.lt
        clear r6 g6
        go_wp2_with fail
        refine (l91List_any g _ v6.heap.size 3 1 1 _ R7 (by omega) T7 ltl7 (by omega) (by omega) (by omega)).mono ?_
        rintro e v7 ⟨t7, q7, lt7, ut7, rfl, r7, hq7, hg7⟩
        have g7 := grown_trans G7 hg7
        clear hg7 G7 R7 T7
        have T8 := texts_new v7 [t3, t7] 1 9 (by simp; omega)
        have R8 := new_rd r7 (.cells ([t3, t7].map Value.string).toArray 9)
        have G8 := grown_allocD g7 (.cells ([t3, t7].map Value.string).toArray 9)
        have ltl8 := r7.lt
        clear r7 g7
        go_wp2_with fail
        refine (l91List_any g _ v7.heap.size 2 1 9 _ R8 (by omega) T8 ltl8 (by omega) (by omega) (by omega)).mono ?_
        rintro e v8 ⟨t8, q8, lt8, ut8, rfl, r8, hq8, hg8⟩
        have g8 := grown_trans G8 hg8
        clear hg8 G8 R8 T8
        go_wp2_with fail
        refine (pickX _ _ 20 _ r8 (by omega) (by omega) (by omega)).mono ?_
        rintro e wz ⟨z, z0, z1, rfl, hrz, hgz⟩
        have gz := grown_trans g8 hgz
        clear hgz g8 r8
        by_cases hz : z = 0
        · have hzb : (z == 0) = true := by simpa using hz
          clear hz
          go_wp2_with fail
          refine (pickX _ _ (t8.size : Int) _ hrz (by omega) (by omega) (by omega)).mono ?_
          rintro e wy ⟨y, y0, y1, rfl, hry, hgy⟩
          obtain ⟨n, rfl⟩ := Int.eq_ofNat_of_zero_le y0
          have hn : n + 1 ≤ t8.size := by omega
          have gy := grown_trans gz hgy
          clear hgy gz hrz
          have hn0 : (0 : Int) ≤ (n : Int) := by omega
          have hn1 : (n : Int) ≤ (t8.size : Int) := by omega
          have hn2 : (0 : Int) ≤ (n : Int) + 1 := by omega
          have hn3 : (n : Int) + 1 ≤ (t8.size : Int) := by omega
          have hn4 : IntKind.i64.wrap ((n : Int) + 1) = (n : Int) + 1 := IntWalk.i64_in _ (by omega)
          have hn5 : n ≤ t8.size := by omega
          have K5 : KX w g p wy := ⟨gy, _, by omega, hry⟩
          have hqq : q8 + 1 + 1 ≤ p + 28 := by omega
          have hqb : q8 + 1 + 1 ≤ 900000 := by omega
          have hlty := hry.lt
          have hry' : RdX (wy.alloc (.cells (marksX.map Value.string).toArray 9)).drew g (q8 + 1 + 1) := hry.below (((Below.refl _ _).alloc (Nat.le_refl _) _).drew)
          have hby : Texts (wy.alloc (.cells (marksX.map Value.string).toArray 9)).drew wy.heap.size 6 0 1 := texts_new wy marksX 0 1 (by decide)
          have hbz : t8.size ≤ 40 := by omega
          have h16 : 1 ≤ 6 := by decide
          have h61 : 6 ≤ 1000 := by decide
          clear hry gy
          go_wp2
          go_region_held3 (fun w' => KX w g p w')
            (first | assumption | exact K5.drew | exact (K5.alloc _).drew | (apply kcK g6 hr6 f0; assumption) | fail)
            (first
              | (go_at_call 49; refine (ofX g (q8 + 1 + 1) wy.heap.size 6 0 1 _ hry' hqb hby hlty h16 h61).mono ?_; rintro e w6 ⟨xs, q6, lo6, hx1, rfl, hr6, hq6, g6⟩; have f0 := cat0 hq6 hqq; have f1 := catA hn hbz hx1; have f2 := catB hn hbz hx1)
              | fail)
          all_goals go_wp2
          all_goals go_ret
          all_goals exact DrawnS.ofK (by assumption) (by simp [ByteArray.size_append, ByteArray.size_extract]; omega)
        · have hzb : (z == 0) = false := by simpa using hz
          have D := Lib.hid (show DrawnS w g p 30 0 60 (.returned (.string t8)) wz from ⟨_, _, by omega, by omega, rfl, hrz, by omega, gz⟩)
          clear hz hrz gz
          go_wp2_with fail
          go_ret
          exact D.out
end Go.Proofs.Ytnfaihgnggmpkaa

/- Laws on drawn expressions: validity, depth, wrapping. -/
namespace Go.Proofs.Ytnfaihgnggmpkaa
open Go.RowKit

theorem data_app (a b : ByteArray) : (a ++ b).data.toList = a.data.toList ++ b.data.toList := by simp [ByteArray.data_append]
theorem pT0_of {T : ByteArray} {x : Ex} (h : T.data.toList = tx x) (hw : wf x) (hl : T.size ≤ 40) : pT0 T = some x := by
  unfold pT0
  rw [h]
  exact pX_tx hw (by rw [← h]; simpa using hl)
theorem pT0_tx {T : ByteArray} {x : Ex} (h : pT0 T = some x) : T.data.toList = tx x ∧ wf x := ⟨(pX_some h).1, (pX_some h).2.1⟩
theorem wrapT {T : ByteArray} {x : Ex} (h : pT0 T = some x) (hl : T.size + 3 ≤ 40) : pT0 (⟨#[49, 40]⟩ ++ T ++ ⟨#[41]⟩) = some (.thr 1 [x]) := by
  obtain ⟨h1, h2⟩ := pT0_tx h
  refine pT0_of ?_ ?_ ?_
  · rw [data_app, data_app, h1]
    simp only [tx, txL, txT]
    rfl
  · simp [wf, wfL, h2]
  · rw [ByteArray.size_append, ByteArray.size_append]
    show 2 + T.size + 1 ≤ 40
    omega
theorem moreT {T : ByteArray} {x : Ex} (h : pT0 T = some x) : pT0 (T ++ ⟨#[49]⟩) = none := by
  obtain ⟨h1, h2⟩ := pT0_tx h
  by_cases hl : (T ++ ⟨#[49]⟩ : ByteArray).size ≤ 40
  · rw [pT0_small hl, data_app, h1]
    have hs : (tx x).length ≤ 39 := by
      rw [ByteArray.size_append] at hl
      have : (⟨#[49]⟩ : ByteArray).size = 1 := rfl
      have h3 : T.size = (tx x).length := by rw [← h1]; simp
      omega
    have := (p_full 81).1 x [49] h2 (fun c t e => by injection e with e; rw [← e]; decide) (by omega)
    rw [show (⟨#[49]⟩ : ByteArray).data.toList = [49] from rfl, this]
  · exact pT0_big (by omega)
theorem txT_last (es : List Ex) : ∃ t, txT es = t ++ [41] := by
  induction es with
  | nil => exact ⟨[], by simp [txT]⟩
  | cons e es ih =>
    obtain ⟨t, ht⟩ := ih
    exact ⟨44 :: (tx e ++ t), by rw [txT_cons, txL_cons, ht]; simp⟩
theorem lessT {T : ByteArray} {x : Ex} (h : pT0 T = some x) (hs : T.size ≠ 1) : pT0 (T.extract 0 (T.size - 1)) = none := by
  obtain ⟨h1, h2⟩ := pT0_tx h
  have h40 := pT0_40 h
  have hsz : T.size = (tx x).length := by rw [← h1]; simp
  cases x with
  | mem m => exfalso; apply hs; rw [hsz]; simp [tx]
  | thr k es =>
    cases hp : pT0 (T.extract 0 (T.size - 1)) with
    | none => rfl
    | some y =>
      exfalso
      obtain ⟨y1, y2⟩ := pT0_tx hp
      have hd : (T.extract 0 (T.size - 1)).data.toList = (tx (.thr k es)).take (T.size - 1) := by
        rw [← h1]; simp [ByteArray.data_extract, List.dropLast_eq_take]
      rw [y1] at hd
      obtain ⟨t, ht⟩ : ∃ t, tx (.thr k es) = t ++ [41] := by
        cases es with
        | nil => simp only [wf] at h2; simp at h2; omega
        | cons e es =>
          obtain ⟨t, ht⟩ := txT_last es
          exact ⟨dg k :: 40 :: (tx e ++ t), by simp only [tx]; rw [txL_cons, ht]; simp⟩
      have hty : tx y = t := by
        rw [hd, ht, hsz, ht]; simp
      have e1 := (p_full 81).1 (.thr k es) [] h2 (fun c t e => by cases e) (by omega)
      rw [List.append_nil, ht, ← hty] at e1
      have e2 := (p_full 81).1 y [41] y2 (fun c t e => by injection e with e; rw [← e]; decide) (by
        have : (tx y).length + 1 = (tx (.thr k es)).length := by rw [ht, hty]; simp
        omega)
      rw [e2] at e1
      injection e1 with e1
      injection e1 with _ e1
      cases e1
theorem ok_no {T : ByteArray} (h : pT0 T = none) : okX T = false := by simp [okX, h]
theorem ok_yes {T : ByteArray} {x : Ex} (h : pT0 T = some x) : okX T = true := by simp [okX, h]
theorem dep_wrap (x : Ex) : dep (.thr 1 [x]) = dep x + 1 := by simp [dep, depL]; omega
theorem sat_wrap (s : Nat) (x : Ex) : sat s (.thr 1 [x]) = sat s x := by
  cases h : sat s x <;> simp [sat, satL, h]
theorem dep_zero {x : Ex} (h : wf x) : dep x = 0 ↔ (tx x).length = 1 := by
  cases x with
  | mem m => simp [dep, tx]
  | thr k es =>
    cases es with
    | nil => simp only [wf] at h; simp at h; omega
    | cons e es => simp only [dep, depL, tx, List.length_cons]; omega

/-- A drawn text. -/
def Text (w : World) (e : Ending) (w' : World) : Prop := (∃ t : ByteArray, t.size ≤ 100 ∧ e = .returned (.string t)) ∧ Below w.heap.size w w'
def TextSet (w : World) (e : Ending) (w' : World) : Prop :=
  (∃ (t : ByteArray) (l : List Int) (A : Option Addr) (c : Nat), t.size ≤ 100 ∧ l.length ≤ 7 ∧ e = .returned (.tuple #[.string t, .slice A l.length c]) ∧ IL w' A l) ∧ Below w.heap.size w w'
theorem rd_below {w w1 w2 : World} (h : Below w.heap.size w w1) (hg : w1.grownBy w2 (some w.heap.size)) : Below w.heap.size w w2 := h.grown hg h.size (fun k hk => by injection hk with hk; omega)

def marksV : List ByteArray := [⟨#[49]⟩, ⟨#[40]⟩, ⟨#[41]⟩, ⟨#[44]⟩, ⟨#[55]⟩]
theorem catC {n z x : Nat} (hn : n ≤ z) (hz : z ≤ 60) (hx : x ≤ 1) : ¬ 9223372036854775807 < n + x := by omega
theorem catD {n z x : Nat} (hn : n ≤ z) (hz : z ≤ 60) (hx : x ≤ 1) : ¬ 9223372036854775807 < n + x + (z - n) := by omega
theorem kcB {a W W' : World} (hg : W.grownBy W' (some a.heap.size)) (h : Below a.heap.size a W) : Below a.heap.size a W' := h.grown hg h.size (fun k e => by injection e with e; omega)
theorem c7 : okX ⟨#[55]⟩ = false := by rfl
theorem c01 : okX ⟨#[48, 40, 49, 41]⟩ = false := by rfl
theorem ce : okX ⟨#[]⟩ = false := by rfl
theorem c21 : okX ⟨#[50, 40, 49, 41]⟩ = false := by rfl
theorem vS (T : ByteArray) (w : World) (b : Bool) (h : okX T = b) (hT : T.size ≤ 1048576) : Calls Try.prog 46 #[.string T] w fun e w' => e = .returned (.bool b) ∧ w = w' := by
  rw [← h]; exact specValidX T w hT

end Go.Proofs.Ytnfaihgnggmpkaa
