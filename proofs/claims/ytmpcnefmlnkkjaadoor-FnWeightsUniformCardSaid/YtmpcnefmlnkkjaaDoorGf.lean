/- Drawn vote assignments by their contracts. -/
import Derived.Test.YtmpcnefmlnkkjaaDoorGb
import Derived.Test.YtmpcnefmlnkkjaaDoorGe
import Derived.Deep.RegionHeld3
namespace Go.Proofs.YtmpcnefmlnkkjaaDoor
open Go.RowKit

/-- Behind an append of one drawn number to a row of the call's own. -/
theorem step_app {w w3 w4 : World} {g q : Nat} {l : List Int} {v v' : Value} {x : Int} {o : Obj} (hlt : g < w.heap.size)
    (hg2 : w.grownBy w3 (some g)) (hr : RdX w3 g q) (hv : ∀ k, v.ownBlock = some k → w.heap.size ≤ k)
    (ho : w4.ownsRow w.heap.size 3 1 v' (l.length + 1) (l.map (Value.int .i64) ++ [.int .i64 x])) (hg : (w3.alloc o).grownBy w4 v.ownBlock) :
    ∃ A c, v' = .slice A (l ++ [x]).length c ∧ w4.ownsRow w.heap.size 3 1 (.slice A (l ++ [x]).length c) (l ++ [x]).length ((l ++ [x]).map (Value.int .i64)) ∧ RdX w4 g q ∧ w.grownBy w4 (some g) := by
  have hg3 : w3.grownBy w4 v.ownBlock := ⟨hg.os, hg.tape, hg.output, Nat.le_trans (by simp) hg.size, fun i hi hne => (hg.block i (by simp; omega) hne).trans (Below.heap_alloc w3 o i hi)⟩
  have h1 : w4.ownsRow w.heap.size 3 1 v' (l ++ [x]).length ((l ++ [x]).map (Value.int .i64)) := by simpa using ho
  obtain ⟨A, c, rfl⟩ := own_slice h1
  exact ⟨A, c, rfl, h1, hr.grown hg3 fun k hk => Nat.lt_of_lt_of_le hlt (hv k hk), grown_new hg2 hg3 hv⟩

/-- A drawn list of at most seven numbers. -/
def DrawnW (w : World) (g p : Nat) (e : Ending) (w' : World) : Prop :=
  ∃ (l : List Int) (A : Option Addr) (c q : Nat), l.length ≤ 7 ∧ e = .returned (.slice A l.length c) ∧ w'.ownsRow w.heap.size 3 1 (.slice A l.length c) l.length (l.map (Value.int .i64)) ∧ RdX w' g q ∧ q ≤ p + 10 ∧ w.grownBy w' (some g)

set_option maxRecDepth 100000 in
set_option maxHeartbeats 1600000 in
theorem l91Weights_any (g p : Nat) (w : World) (h : RdX w g p) (hp : p ≤ 900000) :
    Calls Tryd.prog 12 #[.pointer (some ⟨g, 0, none⟩)] w (DrawnW w g p) := by
  obtain ⟨i0, hi0, hz0, hz1, hz2⟩ := info_parts int_info
  have hlt := h.lt
  have hbm : Below w.heap.size w (w.alloc (.cells #[] 3)) := (Below.refl _ w).alloc (Nat.le_refl _) _
  have hr1 := h.below hbm
  have hg1 := World.grownBy_alloc w (.cells #[] 3) (some g)
  have ho1 : (w.alloc (.cells #[] 3)).ownsRow w.heap.size 3 1 (.slice (some ⟨w.heap.size, 0, none⟩) 0 0) 0 [] := World.ownsRow_made w #[] 0 (Nat.le_refl _) (by unfold maxLen; omega) (by simp)
  clear hbm h
  go_enter Tryd.func12, Tryd.ntmps12
  go_wp2_with fail
  generalize w.alloc (.cells #[] 3) = w1 at *
  refine (pickX _ _ 6 _ hr1 (by omega) (by omega) (by omega)).mono ?_
  rintro e w2 ⟨x, x0, x1, rfl, hr2, hg2⟩
  obtain ⟨m, rfl⟩ := Int.eq_ofNat_of_zero_le x0
  have H0 := Lib.hid (And.intro (kept_far ho1 hg2 hlt) (And.intro hr2 (grown_trans hg1 hg2)))
  clear ho1 hr1 hg1 hr2 hg2
  go_wp2
  go_loopw [3, 4] (fun v i wr => ∃ (l : List Int) (n q : Nat) (A : Option Addr) (c : Nat), i = .int .i64 n ∧ v = .slice A l.length c ∧ n + l.length ≤ 6 ∧ wr.ownsRow w.heap.size 3 1 (.slice A l.length c) l.length (l.map (Value.int .i64)) ∧ RdX wr g q ∧ q ≤ p + 1 + l.length ∧ w.grownBy wr (some g)) (fun _ i _ => (intOf i).toNat)
  case atStart => exact ⟨[], 1 + m, p + 1, _, _, by go_num, rfl, by simp; omega, H0.out.1, H0.out.2.1, by simp, H0.out.2.2⟩
  case round =>
    clear H0
    obtain ⟨l, n, q, A, c, rfl, rfl, hnl, hown, hrd, hq, hgr⟩ := hrel
    cases n with
    | succ n =>
      have hn0 : (0 : Int) < ((n + 1 : Nat) : Int) := by omega
      go_wp2_with fail
      refine (pickX _ _ 4 _ hrd (by omega) (by omega) (by omega)).mono ?_
      rintro e w3 ⟨y, y0, y1, rfl, hr3, hg3⟩
      have hown3 := kept_far hown hg3 hlt
      have hgr3 := grown_trans hgr hg3
      have hg3s := hgr3.size
      have hv : ∀ k, (Value.slice A l.length c).ownBlock = some k → w.heap.size ≤ k := fun k hk => (hown3.lt k hk).1
      clear hown hrd hgr hg3
      go_wp2_with (at_builtin; refine wpList_append_own _ rfl (.tmp 13) (.tmp 16) 23 rfl w.heap.size 3 i0 (.int .i64 0) 1 8 Tryd.underlying23 hi0 hz0 hz1 hz2 rfl (by decide) _ _ _ rfl (hown3.alloc _) ⟨w3.heap.size, 0, none⟩ 1 1 [.int .i64 y] rfl rfl (cell_one_new _ _ _) (ints_oneCell .i64 [(y : Int)]) (by unfold maxLen; omega) (by omega) (by simp; omega) ?_)
      intro v' w4 ho4 hg4 _
      obtain ⟨A4, c4, rfl, ho5, hr5, hg5⟩ := step_app hlt hgr3 hr3 hv ho4 hg4
      have D := Lib.hid (And.intro ho5 (And.intro hr5 hg5))
      have hll : (l ++ [y]).length = l.length + 1 := by simp
      have hn1 : ((n + 1 : Nat) : Int) - 1 = (n : Int) := by omega
      clear ho4 hg4 ho5 hr5 hg5 hown3 hr3 hgr3
      generalize l ++ [y] = l2 at *
      go_wp2
      go_roundw
      case rel => exact ⟨l2, n, q + 1, A4, c4, by go_num, rfl, by omega, D.out.1, D.out.2.1, by omega, D.out.2.2⟩
      case measure => simp [intOf]
    | zero =>
      go_wp2_with fail
      refine (pickX _ _ 40 _ hrd (by omega) (by omega) (by omega)).mono ?_
      rintro e w3 ⟨y, y0, y1, rfl, hr3, hg3⟩
      have hown3 := kept_far hown hg3 hlt
      have hgr3 := grown_trans hgr hg3
      have hg3s := hgr3.size
      have hv : ∀ k, (Value.slice A l.length c).ownBlock = some k → w.heap.size ≤ k := fun k hk => (hown3.lt k hk).1
      clear hown hrd hgr hg3
      by_cases hy : y = 0
      · have hyb : (y == 0) = true := by simpa using hy
        clear hy
        go_wp2_with (at_builtin; refine wpList_append_own _ rfl (.tmp 21) (.tmp 22) 23 rfl w.heap.size 3 i0 (.int .i64 0) 1 8 Tryd.underlying23 hi0 hz0 hz1 hz2 rfl (by decide) _ _ _ rfl (hown3.alloc _) ⟨w3.heap.size, 0, none⟩ 1 1 [.int .i64 10] rfl rfl (cell_one_new _ _ _) (ints_oneCell .i64 [(10 : Int)]) (by unfold maxLen; omega) (by omega) (by simp; omega) ?_)
        intro v' w4 ho4 hg4 _
        obtain ⟨A4, c4, rfl, ho5, hr5, hg5⟩ := step_app hlt hgr3 hr3 hv ho4 hg4
        have D := Lib.hid (show DrawnW w g p (.returned (.slice A4 (l ++ [10]).length c4)) w4 from ⟨l ++ [10], A4, c4, q + 1, by simp; omega, rfl, ho5, hr5, by omega, hg5⟩)
        clear ho4 hg4 ho5 hr5 hg5 hown3 hr3 hgr3
        go_wp2
        go_ret
        exact D.out
      · have hyb : (y == 0) = false := by simpa using hy
        have D := Lib.hid (show DrawnW w g p (.returned (.slice A l.length c)) w3 from ⟨l, A, c, q + 1, by omega, rfl, hown3, hr3, by omega, hgr3⟩)
        clear hy hown3 hr3 hgr3
        go_wp2
        go_ret
        exact D.out

/-- A drawn assignment and a drawn number. -/
def DrawnWN (w : World) (e : Ending) (w' : World) : Prop :=
  ∃ (v : List Int) (n : Int) (A : Option Addr) (c : Nat), v.length ≤ 7 ∧ 0 ≤ n ∧ n < 14 ∧ e = .returned (.tuple #[.slice A v.length c, .int .i64 n]) ∧ IL w' A v ∧ Below w.heap.size w w'

set_option maxRecDepth 100000 in
set_option maxHeartbeats 1600000 in
theorem drawWFam_any (A : Option Addr) (c : Nat) (l : List Int) (w : World) (ha : BL w A l) (hc : l.length ≤ c) (hm : l.length ≤ maxLen) (hmc : c ≤ maxLen) :
    Calls Tryd.prog 4 #[.slice A l.length c] w (DrawnWN w) := by
  go_enter Tryd.func4, Tryd.ntmps4
  go_wp2_with fail
  refine (l6Open_any _ _ _ _ ha hc hm hmc).mono ?_
  rintro e w1 ⟨rfl, hr1, b1⟩
  have hlt := hr1.lt
  go_wp2_with fail
  refine (l91Weights_any _ _ _ hr1 (by omega)).mono ?_
  rintro e w2 ⟨a, A2, c2, q2, ha7, rfl, o2, hr2, hq2, g2⟩
  go_wp2_with fail
  refine (pickX _ _ 14 _ hr2 (by omega) (by omega) (by omega)).mono ?_
  rintro e w3 ⟨y, y0, y1, rfl, hr3, g3⟩
  have o2' := kept_far o2 g3 hlt
  have B3 : Below w.heap.size w w3 := (b1.grown g2 b1.size (fun k hk => by injection hk with hk; omega)).grown g3 (Nat.le_trans b1.size g2.size) (fun k hk => by injection hk with hk; omega)
  have D := Lib.hid (show DrawnWN w (.returned (.tuple #[.slice A2 a.length c2, .int .i64 y])) w3 from ⟨a, y, A2, c2, ha7, y0, y1, rfl, (IL.of_own o2').1, B3⟩)
  clear o2 o2' B3 hr1 hr2 hr3 g2 g3 b1
  go_wp2
  go_ret2
  exact D.out
end Go.Proofs.YtmpcnefmlnkkjaaDoor

/- Drawn texts by their contracts. -/
namespace Go.Proofs.YtmpcnefmlnkkjaaDoor
open Go.RowKit

/-- A text that was drawn, of a size between lo and hi; only the reader's block has turned, and what is new. -/
def DrawnS (w : World) (g p k lo hi : Nat) (e : Ending) (w' : World) : Prop :=
  ∃ (x : ByteArray) (q : Nat), lo ≤ x.size ∧ x.size ≤ hi ∧ e = .returned (.string x) ∧ RdX w' g q ∧ q ≤ p + k ∧ w.grownBy w' (some g)
/-- The block b holds n texts of sizes between lo and hi. -/
def Texts (w : World) (b n lo hi : Nat) : Prop :=
  b < w.heap.size ∧ ∀ j, j < n → ∃ s : ByteArray, lo ≤ s.size ∧ s.size ≤ hi ∧ w.cell? ⟨b, j, none⟩ = some (.string s)
theorem Texts.grown {w w' : World} {b n lo hi : Nat} {row : Option Nat} (h : Texts w b n lo hi) (hg : w.grownBy w' row) (hr : row ≠ some b) : Texts w' b n lo hi :=
  ⟨Nat.lt_of_lt_of_le h.1 hg.size, fun j hj => by
    obtain ⟨s, h1, h2, h3⟩ := h.2 j hj
    exact ⟨s, h1, h2, (World.cell?_of_block (a := ⟨b, j, none⟩) (hg.block b h.1 (fun e => hr e.symm))).trans h3⟩⟩
theorem texts_new (w : World) (l : List ByteArray) (lo hi : Nat) (h : ∀ s ∈ l, lo ≤ s.size ∧ s.size ≤ hi) : Texts (w.alloc (.cells (l.map Value.string).toArray 9)) w.heap.size l.length lo hi := by
  refine ⟨by simp, fun j hj => ?_⟩
  obtain ⟨h1, h2⟩ := h l[j] (List.getElem_mem hj)
  refine ⟨l[j], h1, h2, ?_⟩
  rw [cell_of_row _ w.heap.size j _ _ (0, 0) (heap_alloc_new w _)]
  simp [hj]

theorem grown_alloc0 (w : World) (o : Obj) (g : Nat) : w.grownBy (w.alloc o) (some g) := World.grownBy_alloc w o (some g)
theorem new_rd {w : World} {g p : Nat} (h : RdX w g p) (o : Obj) : RdX (w.alloc o) g p := h.below ((Below.refl _ _).alloc (Nat.le_refl _) _)
theorem DrawnS.from {w w1 : World} {g p k lo hi : Nat} {e : Ending} {w' : World} (hg : w.grownBy w1 (some g)) (h : DrawnS w1 g p k lo hi e w') : DrawnS w g p k lo hi e w' := by
  obtain ⟨x, q, h1, h2, h3, h4, h5, h6⟩ := h
  exact ⟨x, q, h1, h2, h3, h4, h5, grown_trans hg h6⟩

def leaves : List ByteArray := [⟨#[49]⟩, ⟨#[50]⟩, ⟨#[51]⟩, ⟨#[52]⟩, ⟨#[53]⟩, ⟨#[54]⟩]
theorem s_size (l : List UInt8) : (⟨l.toArray⟩ : ByteArray).size = l.length := by show l.toArray.size = _; simp
theorem grown_allocD {a b : World} {row : Option Nat} (h : a.grownBy b row) (o : Obj) : a.grownBy (b.alloc o) row := grown_new h (World.grownBy_alloc b o none) (by simp)
end Go.Proofs.YtmpcnefmlnkkjaaDoor

/- Drawn expressions by their contracts. -/
namespace Go.Proofs.YtmpcnefmlnkkjaaDoor
open Go.RowKit

/-- A text of the reader's, with how far it has come. -/
def KX (w : World) (g p : Nat) (w' : World) : Prop := w.grownBy w' (some g) ∧ ∃ q, q ≤ p + 30 ∧ RdX w' g q
theorem KX.drew {w w' : World} {g p : Nat} (h : KX w g p w') : KX w g p w'.drew := ⟨only_drew h.1 1, by obtain ⟨q, h1, h2⟩ := h.2; exact ⟨q, h1, h2.below ((Below.refl _ _).drew)⟩⟩
theorem KX.alloc {w w' : World} {g p : Nat} (h : KX w g p w') (o : Obj) : KX w g p (w'.alloc o) := ⟨grown_allocD h.1 o, by obtain ⟨q, h1, h2⟩ := h.2; exact ⟨q, h1, new_rd h2 o⟩⟩
theorem kcK {w W W' : World} {g p q : Nat} (hg : W.grownBy W' (some g)) (hr : RdX W' g q) (hq : q ≤ p + 30) (h : KX w g p W) : KX w g p W' := ⟨grown_trans h.1 hg, q, hq, hr⟩
theorem cat0 {a q p : Nat} (h : q ≤ a + 1) (h2 : a ≤ p + 28) : q ≤ p + 30 := by omega
theorem catA {n z x : Nat} (hn : n + 1 ≤ z) (hz : z ≤ 40) (hx : x ≤ 1) : ¬ 9223372036854775807 < n + x := by omega
theorem catB {n z x : Nat} (hn : n + 1 ≤ z) (hz : z ≤ 40) (hx : x ≤ 1) : ¬ 9223372036854775807 < n + x + (z - (n + 1)) := by omega
theorem DrawnS.ofK {w w' : World} {g p : Nat} {x : ByteArray} (h : KX w g p w') (hx : x.size ≤ 60) : DrawnS w g p 30 0 60 (.returned (.string x)) w' := by
  obtain ⟨q, h1, h2⟩ := h.2
  exact ⟨x, q, Nat.zero_le _, hx, rfl, h2, h1, h.1⟩
def marksX : List ByteArray := [⟨#[48]⟩, ⟨#[40]⟩, ⟨#[41]⟩, ⟨#[44]⟩, ⟨#[55]⟩, ⟨#[]⟩]
def samples : List ByteArray := [⟨#[50, 40, 49, 44, 50, 44, 51, 41]⟩, ⟨#[51, 40, 49, 44, 50, 44, 51, 44, 52, 44, 53, 41]⟩, ⟨#[50, 40, 49, 40, 49, 44, 50, 41, 44, 49, 40, 51, 44, 52, 41, 41]⟩, ⟨#[49, 40, 50, 40, 49, 44, 50, 41, 44, 50, 40, 51, 44, 52, 41, 41]⟩, ⟨#[50, 40, 50, 40, 49, 44, 50, 44, 51, 41, 44, 50, 40, 52, 44, 53, 44, 54, 41, 41]⟩]

end Go.Proofs.YtmpcnefmlnkkjaaDoor

/- Laws on drawn expressions: validity, depth, wrapping. -/
namespace Go.Proofs.YtmpcnefmlnkkjaaDoor
open Go.RowKit

theorem data_app (a b : ByteArray) : (a ++ b).data.toList = a.data.toList ++ b.data.toList := by simp [ByteArray.data_append]
theorem pT0_of {T : ByteArray} {x : Ex} (h : T.data.toList = tx x) (hw : wf x) (hl : T.size ≤ 40) : pT0 T = some x := by
  unfold pT0
  rw [h]
  exact pX_tx hw (by rw [← h]; simpa using hl)
theorem pT0_tx {T : ByteArray} {x : Ex} (h : pT0 T = some x) : T.data.toList = tx x ∧ wf x := ⟨(pX_some h).1, (pX_some h).2.1⟩
theorem wrapT {T : ByteArray} {x : Ex} (h : pT0 T = some x) (hl : T.size + 3 ≤ 40) : pT0 (⟨#[49, 40]⟩ ++ T ++ ⟨#[41]⟩) = some (.thr 1 [x]) := by
  obtain ⟨h1, h2⟩ := pT0_tx h
  refine pT0_of ?_ ?_ ?_
  · rw [data_app, data_app, h1]
    simp only [tx, txL, txT]
    rfl
  · simp [wf, wfL, h2]
  · rw [ByteArray.size_append, ByteArray.size_append]
    show 2 + T.size + 1 ≤ 40
    omega
theorem moreT {T : ByteArray} {x : Ex} (h : pT0 T = some x) : pT0 (T ++ ⟨#[49]⟩) = none := by
  obtain ⟨h1, h2⟩ := pT0_tx h
  by_cases hl : (T ++ ⟨#[49]⟩ : ByteArray).size ≤ 40
  · rw [pT0_small hl, data_app, h1]
    have hs : (tx x).length ≤ 39 := by
      rw [ByteArray.size_append] at hl
      have : (⟨#[49]⟩ : ByteArray).size = 1 := rfl
      have h3 : T.size = (tx x).length := by rw [← h1]; simp
      omega
    have := (p_full 81).1 x [49] h2 (fun c t e => by injection e with e; rw [← e]; decide) (by omega)
    rw [show (⟨#[49]⟩ : ByteArray).data.toList = [49] from rfl, this]
  · exact pT0_big (by omega)
theorem txT_last (es : List Ex) : ∃ t, txT es = t ++ [41] := by
  induction es with
  | nil => exact ⟨[], by simp [txT]⟩
  | cons e es ih =>
    obtain ⟨t, ht⟩ := ih
    exact ⟨44 :: (tx e ++ t), by rw [txT_cons, txL_cons, ht]; simp⟩
theorem lessT {T : ByteArray} {x : Ex} (h : pT0 T = some x) (hs : T.size ≠ 1) : pT0 (T.extract 0 (T.size - 1)) = none := by
  obtain ⟨h1, h2⟩ := pT0_tx h
  have h40 := pT0_40 h
  have hsz : T.size = (tx x).length := by rw [← h1]; simp
  cases x with
  | mem m => exfalso; apply hs; rw [hsz]; simp [tx]
  | thr k es =>
    cases hp : pT0 (T.extract 0 (T.size - 1)) with
    | none => rfl
    | some y =>
      exfalso
      obtain ⟨y1, y2⟩ := pT0_tx hp
      have hd : (T.extract 0 (T.size - 1)).data.toList = (tx (.thr k es)).take (T.size - 1) := by
        rw [← h1]; simp [ByteArray.data_extract, List.dropLast_eq_take]
      rw [y1] at hd
      obtain ⟨t, ht⟩ : ∃ t, tx (.thr k es) = t ++ [41] := by
        cases es with
        | nil => simp only [wf] at h2; simp at h2; omega
        | cons e es =>
          obtain ⟨t, ht⟩ := txT_last es
          exact ⟨dg k :: 40 :: (tx e ++ t), by simp only [tx]; rw [txL_cons, ht]; simp⟩
      have hty : tx y = t := by
        rw [hd, ht, hsz, ht]; simp
      have e1 := (p_full 81).1 (.thr k es) [] h2 (fun c t e => by cases e) (by omega)
      rw [List.append_nil, ht, ← hty] at e1
      have e2 := (p_full 81).1 y [41] y2 (fun c t e => by injection e with e; rw [← e]; decide) (by
        have : (tx y).length + 1 = (tx (.thr k es)).length := by rw [ht, hty]; simp
        omega)
      rw [e2] at e1
      injection e1 with e1
      injection e1 with _ e1
      cases e1
theorem ok_no {T : ByteArray} (h : pT0 T = none) : okX T = false := by simp [okX, h]
theorem ok_yes {T : ByteArray} {x : Ex} (h : pT0 T = some x) : okX T = true := by simp [okX, h]
theorem dep_wrap (x : Ex) : dep (.thr 1 [x]) = dep x + 1 := by simp [dep, depL]; omega
theorem sat_wrap (s : Nat) (x : Ex) : sat s (.thr 1 [x]) = sat s x := by
  cases h : sat s x <;> simp [sat, satL, h]
theorem dep_zero {x : Ex} (h : wf x) : dep x = 0 ↔ (tx x).length = 1 := by
  cases x with
  | mem m => simp [dep, tx]
  | thr k es =>
    cases es with
    | nil => simp only [wf] at h; simp at h; omega
    | cons e es => simp only [dep, depL, tx, List.length_cons]; omega

/-- A drawn text. -/
def Text (w : World) (e : Ending) (w' : World) : Prop := (∃ t : ByteArray, t.size ≤ 100 ∧ e = .returned (.string t)) ∧ Below w.heap.size w w'
def TextSet (w : World) (e : Ending) (w' : World) : Prop :=
  (∃ (t : ByteArray) (l : List Int) (A : Option Addr) (c : Nat), t.size ≤ 100 ∧ l.length ≤ 7 ∧ e = .returned (.tuple #[.string t, .slice A l.length c]) ∧ IL w' A l) ∧ Below w.heap.size w w'
theorem rd_below {w w1 w2 : World} (h : Below w.heap.size w w1) (hg : w1.grownBy w2 (some w.heap.size)) : Below w.heap.size w w2 := h.grown hg h.size (fun k hk => by injection hk with hk; omega)

def marksV : List ByteArray := [⟨#[49]⟩, ⟨#[40]⟩, ⟨#[41]⟩, ⟨#[44]⟩, ⟨#[55]⟩]
theorem catC {n z x : Nat} (hn : n ≤ z) (hz : z ≤ 60) (hx : x ≤ 1) : ¬ 9223372036854775807 < n + x := by omega
theorem catD {n z x : Nat} (hn : n ≤ z) (hz : z ≤ 60) (hx : x ≤ 1) : ¬ 9223372036854775807 < n + x + (z - n) := by omega
theorem kcB {a W W' : World} (hg : W.grownBy W' (some a.heap.size)) (h : Below a.heap.size a W) : Below a.heap.size a W' := h.grown hg h.size (fun k e => by injection e with e; omega)
theorem c7 : okX ⟨#[55]⟩ = false := by rfl
theorem c01 : okX ⟨#[48, 40, 49, 41]⟩ = false := by rfl
theorem ce : okX ⟨#[]⟩ = false := by rfl
theorem c21 : okX ⟨#[50, 40, 49, 41]⟩ = false := by rfl
end Go.Proofs.YtmpcnefmlnkkjaaDoor
