/- Logs: the program's linked list and its functions, by their contracts. -/
import Derived.Test.YtimijinldhpmfaaLgM
import Derived.Test.YtimijinldhpmfaaEnF
namespace Go.Proofs.Ytimijinldhpmfaa
open Go.RowKit

/-- The list that begins at v, the last entry first; its blocks lie below n, each below the one ahead of it. -/
def LN (w : World) : Nat → List En → Value → Prop
  | _, [], v => v = .pointer none
  | n, x :: r, v => ∃ g p, v = .pointer (some ⟨g, 0, none⟩) ∧ g < n ∧ w.heap[g]? = some (.cells #[.int .i64 x.1, .int .i64 x.2, .int .i64 r.length, p] 70 (0, 0)) ∧ LN w g r p
theorem LN.keep {w w' : World} : ∀ {n : Nat} {r : List En} {v : Value}, LN w n r v → (∀ g, g < n → w'.heap[g]? = w.heap[g]?) → LN w' n r v
  | _, [], _, h, _ => h
  | _, _ :: _, _, ⟨g, p, hv, hg, hb, ht⟩, k => ⟨g, p, hv, hg, (k g hg).trans hb, LN.keep ht fun i hi => k i (Nat.lt_trans hi hg)⟩
theorem LN.more {w : World} {n m : Nat} : ∀ {r : List En} {v : Value}, LN w n r v → n ≤ m → LN w m r v
  | [], _, h, _ => h
  | _ :: _, _, ⟨g, p, hv, hg, hb, ht⟩, k => ⟨g, p, hv, Nat.lt_of_lt_of_le hg k, hb, ht⟩
theorem LN.below {w w' : World} {n : Nat} {r : List En} {v : Value} (h : LN w n r v) (hn : n ≤ w.heap.size) (hb : Below w.heap.size w w') : LN w' n r v := h.keep fun g hg => hb.block g (Nat.lt_of_lt_of_le hg hn)
theorem LN.cells {w : World} {g : Nat} {x : En} {k : Nat} {p : Value} {T : TypeId} (h : w.heap[g]? = some (.cells #[.int .i64 x.1, .int .i64 x.2, .int .i64 k, p] T (0, 0))) :
    w.cell? ⟨g, 0, none⟩ = some (.int .i64 x.1) ∧ w.cell? ⟨g, 1, none⟩ = some (.int .i64 x.2) ∧ w.cell? ⟨g, 2, none⟩ = some (.int .i64 k) ∧ w.cell? ⟨g, 3, none⟩ = some p :=
  ⟨by rw [cell_of_row w g 0 _ _ (0, 0) h]; rfl, by rw [cell_of_row w g 1 _ _ (0, 0) h]; rfl, by rw [cell_of_row w g 2 _ _ (0, 0) h]; rfl, by rw [cell_of_row w g 3 _ _ (0, 0) h]; rfl⟩
theorem LN.cons {W : World} {n : Nat} {r : List En} {v : Value} {x : En} (h : LN W n r v) (hn : n ≤ W.heap.size) :
    LN (W.alloc (.cells #[.int .i64 x.1, .int .i64 x.2, .int .i64 r.length, v] 70)) (W.heap.size + 1) (x :: r) (.pointer (some ⟨W.heap.size, 0, none⟩)) :=
  ⟨W.heap.size, v, rfl, Nat.lt_succ_self _, heap_alloc_new W _, (h.more hn).keep fun g hg => Below.heap_alloc W _ g hg⟩

theorem LN.store {w : World} {n g j k : Nat} {r : List En} {v u t : Value} (h : LN w n r v) (hg : n ≤ g) : LN ((w.setCell ⟨g, j, none⟩ u).setCell ⟨g, k, none⟩ t) n r v :=
  h.keep fun i hi => (Below.heap_setCell _ ⟨g, k, none⟩ t i (by rintro rfl; exact absurd hi (Nat.not_lt.2 hg))).trans (Below.heap_setCell w ⟨g, j, none⟩ u i (by rintro rfl; exact absurd hi (Nat.not_lt.2 hg)))
theorem LN.ptr {w : World} {n : Nat} : ∀ {r : List En} {v : Value}, LN w n r v → ∃ q, v = .pointer q
  | [], _, h => ⟨_, h⟩
  | _ :: _, _, ⟨_, _, hv, _⟩ => ⟨_, hv⟩

theorem isChange_any (x : En) (w : World) :
    Calls Try.prog 57 #[.agg #[.int .i64 x.1, .int .i64 x.2]] w fun e w' => e = .returned (.bool (x.2 != 0)) ∧ Below w.heap.size w w' := by
  obtain ⟨a, b⟩ := x
  go_enter Try.func57, Try.ntmps57
  go_wp2
  go_ret
  exact ⟨rfl, (Below.refl _ w).alloc (Nat.le_refl _) _⟩
theorem okE_cmd {n a b : Int} (h : b = 0) : okE n (a, b) = okV a := by simp [okE, h]
theorem okE_chg {n a b : Int} (h : b ≠ 0) : okE n (a, b) = decide (a = 0 ∧ 1 ≤ b ∧ b ≤ n) := by simp [okE, h]
set_option maxRecDepth 100000 in
set_option maxHeartbeats 800000 in
theorem isEntry_any (x : En) (n : Int) (w : World) :
    Calls Try.prog 52 #[.agg #[.int .i64 x.1, .int .i64 x.2], .int .i64 n] w fun e w' => e = .returned (.bool (okE n x)) ∧ Below w.heap.size w w' := by
  obtain ⟨a, b⟩ := x
  have B0 := (Below.refl _ w).alloc (Nat.le_refl _) (.cells #[.int .i64 a, .int .i64 b] 28)
  have N := Lib.hid (AFEn.new w (a, b) 28)
  obtain ⟨c0, c1⟩ := N.out.c
  by_cases hb : b = 0
  · rw [okE_cmd hb]
    subst hb
    have hb2 : ((0 : Int) != 0) = false := rfl
    go_enter Try.func52, Try.ntmps52
    go_wp2_with fail
    refine (isChange_any (a, 0) _).mono ?_
    rintro e w1 ⟨rfl, b1⟩
    have B1 := below_step B0 b1
    obtain ⟨d0, d1⟩ := (N.out.below b1).c
    simp only at d0 d1
    simp only [hb2]
    clear hb2 c0 c1 b1 B0
    go_wp2_with fail
    refine (isValue_any a _).mono ?_
    rintro e w2 ⟨rfl, rfl⟩
    go_wp2
    go_ret
    exact ⟨rfl, B1⟩
  · rw [okE_chg hb]
    have hb2 : (b != 0) = true := by simp [hb]
    obtain ⟨t, ht⟩ : ∃ t, t = decide (a = 0 ∧ 1 ≤ b ∧ b ≤ n) := ⟨_, rfl⟩
    rw [← ht]
    have HT := Lib.hid ht
    clear ht
    go_enter Try.func52, Try.ntmps52
    go_wp2_with fail
    refine (isChange_any (a, b) _).mono ?_
    rintro e w1 ⟨rfl, b1⟩
    have B1 := below_step B0 b1
    obtain ⟨d0, d1⟩ := (N.out.below b1).c
    simp only at d0 d1
    simp only [hb2]
    have HB := Lib.hid hb
    clear hb hb2 c0 c1 b1 B0
    by_cases ha : a = 0
    · subst ha
      by_cases h1 : 1 ≤ b
      · have e1 : decide (1 ≤ b) = true := by simpa using h1
        by_cases h2 : b ≤ n
        · have e2 : decide (b ≤ n) = true := by simpa using h2
          have E : t = true := by rw [HT.out]; simp [h1, h2]
          subst E
          clear h1 h2
          go_wp2
          go_ret
          exact ⟨rfl, B1⟩
        · have e2 : decide (b ≤ n) = false := by simpa using h2
          have E : t = false := by rw [HT.out]; simp [h2]
          subst E
          clear h1 h2
          go_wp2
          go_ret
          exact ⟨rfl, B1⟩
      · have e1 : decide (1 ≤ b) = false := by simpa using h1
        have E : t = false := by rw [HT.out]; simp [h1]
        subst E
        clear h1
        go_wp2
        go_ret
        exact ⟨rfl, B1⟩
    · have e0 : (a == 0) = false := by simpa using ha
      have E : t = false := by rw [HT.out]; simp [ha]
      subst E
      clear ha
      go_wp2
      go_ret
      exact ⟨rfl, B1⟩

theorem lenN_any (r : List En) (v : Value) (n : Nat) (w : World) (h : LN w n r v) (hr : r.length ≤ 100) :
    Calls Try.prog 53 #[v] w fun e w' => e = .returned (.int .i64 r.length) ∧ w = w' := by
  cases r with
  | nil =>
    obtain rfl : v = .pointer none := h
    go_enter Try.func53, Try.ntmps53
    go_wp2
    go_ret
    exact ⟨rfl, rfl⟩
  | cons x r =>
    obtain ⟨g, p, rfl, hg, hb, ht⟩ := h
    obtain ⟨c0, c1, c2, c3⟩ := LN.cells hb
    have hr2 : r.length ≤ 99 := by simp at hr; omega
    have e : (((x :: r).length : Nat) : Int) = (r.length : Int) + 1 := by simp
    rw [e]
    clear hb ht hr e
    go_enter Try.func53, Try.ntmps53
    go_wp2
    go_ret
    exact ⟨rfl, rfl⟩
theorem slots_any (r : List En) (v : Value) (n : Nat) (w : World) (h : LN w n r v) (hr : r.length ≤ 100) :
    Calls Try.prog 48 #[v] w fun e w' => e = .returned (.int .i64 ((r.length : Int) + 2)) ∧ w = w' := by
  have H := Lib.hid h
  clear h
  go_enter Try.func48, Try.ntmps48
  go_wp2_with fail
  refine (lenN_any r v n _ H.out hr).mono ?_
  rintro e w1 ⟨rfl, rfl⟩
  go_wp2
  go_ret
  exact ⟨rfl, rfl⟩

set_option maxRecDepth 100000 in
set_option maxHeartbeats 800000 in
theorem follow_any (x : En) (r : List En) (v : Value) (n : Nat) (w : World) (h : LN w n r v) (hn : n ≤ w.heap.size) (hr : r.length ≤ 100) :
    Calls Try.prog 55 #[v, .agg #[.int .i64 x.1, .int .i64 x.2]] w fun e w' => ∃ u, e = .returned u ∧ LN w' w'.heap.size (x :: r) u ∧ Below w.heap.size w w' := by
  obtain ⟨a, b⟩ := x
  obtain ⟨q, rfl⟩ := h.ptr
  have B0 := (Below.refl _ w).alloc (Nat.le_refl _) (.cells #[.int .i64 a, .int .i64 b] 28)
  have N := Lib.hid (AFEn.new w (a, b) 28)
  obtain ⟨c0, c1⟩ := N.out.c
  simp only at c0 c1
  have h1 := h.below hn B0
  have C := lenN_any r (.pointer q) n (w.alloc (.cells #[.int .i64 a, .int .i64 b] 28)).drew (h1.keep fun _ _ => rfl) hr
  have hn1 : n ≤ (w.alloc (.cells #[.int .i64 a, .int .i64 b] 28)).drew.heap.size := by simp; omega
  have H1 := Lib.hid (And.intro (LN.cons (x := (a, b)) (h1.keep (w' := (w.alloc (.cells #[.int .i64 a, .int .i64 b] 28)).drew) fun _ _ => rfl) hn1) ((show Below w.heap.size w (w.alloc (.cells #[.int .i64 a, .int .i64 b] 28)).drew from below_drewN B0 1).alloc (by simp) (.cells #[.int .i64 a, .int .i64 b, .int .i64 r.length, .pointer q] 70)))
  clear h h1 B0 hn1
  go_enter Try.func55, Try.ntmps55
  go_wp2
  go_region_law (first
    | (go_simp; go_at_call 53; refine C.mono ?_; rintro e w1 ⟨rfl, rfl⟩)
    | fail)
  all_goals (
    have h1 := H1.out.1
    have h2 := H1.out.2
    simp at h1
    go_wp2
    go_ret
    exact ⟨.pointer (some ⟨w.heap.size + 1, 0, none⟩), rfl, (h1.more (by simp)).keep fun _ _ => rfl, ⟨h2.os, h2.tape, h2.output, by simpa using h2.size, h2.block⟩⟩)

/-- What the reading of a log hands back. -/
def LogOf (w : World) (l : List En) (t : Bool) (e : Ending) (w' : World) : Prop :=
  ∃ v, e = .returned (.tuple #[v, .bool t]) ∧ (t = true → LN w' w'.heap.size l.reverse v) ∧ Below w.heap.size w w'
theorem rev_take {l : List En} {k : Nat} {x : En} (h : l[k]? = some x) : (l.take (k + 1)).reverse = x :: (l.take k).reverse := by
  rw [List.take_add_one, h]; simp
set_option maxRecDepth 100000 in
set_option maxHeartbeats 1600000 in
theorem logOf_any (A : Option Addr) (c : Nat) (l : List En) (n : Int) (w : World) (ha : EnL w A l) (hl : l.length ≤ 1048577) :
    Calls Try.prog 47 #[.slice A l.length c, .int .i64 n] w (LogOf w l (okL l n)) := by
  obtain ⟨t, ht⟩ : ∃ t, t = okL l n := ⟨_, rfl⟩
  rw [← ht]
  have HT := Lib.hid ht
  clear ht
  by_cases hN : okN n = true
  · have hN2 := okN_iff.1 hN
    have e1 : decide (n < 1) = false := by simp; omega
    have e2 : decide (5 < n) = false := by simp; omega
    by_cases h12 : l.length ≤ 12
    · have e3 : decide (12 < (l.length : Int)) = false := by simp; omega
      have G := Lib.hid (And.intro hN (And.intro hN2 h12))
      clear hN hN2
      go_enter Try.func47, Try.ntmps47
      go_wp2
      go_loopw [6, 22] (fun v i wr => ∃ k : Nat, k ≤ l.length ∧ i = .int .i64 k ∧ LN wr wr.heap.size (l.take k).reverse v ∧ Hid (allE n (l.take k) = true) ∧ Below w.heap.size w wr) (fun _ i _ => l.length - (intOf i).toNat)
      case atStart => exact ⟨0, Nat.zero_le _, rfl, (by simp [LN]), (by show allE n _ = true; rfl), Below.refl _ w⟩
      case round =>
        obtain ⟨k, hk, rfl, hln, hal, hbel⟩ := hrel
        by_cases hlt : k < l.length
        · obtain ⟨b, off, x, rfl, hx, c0, c1⟩ := (ha.below hbel).at_ hlt
          have HX := Lib.hid hx
          have hki : (0 : Int) ≤ (k : Int) := by omega
          have hki2 : (k : Int) < (l.length : Int) := by omega
          obtain ⟨x0, x1⟩ := x
          obtain ⟨q, rfl⟩ := hln.ptr
          have HL := Lib.hid (hln.below (Nat.le_refl _) ((Below.refl _ wr).alloc (Nat.le_refl _) (.cells #[.int .i64 x0, .int .i64 x1] 28)))
          have HB := Lib.hid (hbel.alloc hbel.size (.cells #[.int .i64 x0, .int .i64 x1] 28))
          have N := Lib.hid (AFEn.new wr (x0, x1) 28)
          clear hx hln hbel ha
          go_wp2_with fail
          refine (isEntry_any (x0, x1) n _).mono ?_
          rintro e w2 ⟨rfl, b2⟩
          have HB2 := Lib.hid (below_step HB.out b2)
          have HL2 := Lib.hid (HL.out.below (by simp) b2)
          have hz := b2.size
          obtain ⟨d0, d1⟩ := (N.out.below b2).c
          simp only at d0 d1
          clear c0 c1 b2
          by_cases hok : okE n (x0, x1) = true
          · rw [hok]
            go_wp2_with fail
            refine (follow_any (x0, x1) (l.take k).reverse (.pointer q) _ _ HL2.out (Nat.le_trans (by simp) hz) (by simp; omega)).mono ?_
            rintro e w3 ⟨u, rfl, hu, b3⟩
            have HB3 := Lib.hid (below_step HB2.out b3)
            have HU := Lib.hid hu
            have EA := Lib.hid (show allE n (l.take (k + 1)) = true by rw [allE_take HX.out, hal.out, hok]; rfl)
            clear hu b3 d0 d1 hz hok
            go_wp2
            go_roundw
            case rel => exact ⟨k + 1, by omega, by go_num, by rw [rev_take HX.out]; exact HU.out, EA, HB3.out⟩
            case measure => simp [intOf]; omega
          · rw [Bool.not_eq_true] at hok
            obtain rfl : t = false := HT.out.trans (okL_no HX.out hok)
            rw [hok]
            clear hok HT
            go_wp2
            go_ret2
            exact ⟨_, rfl, (by intro h; cases h), HB2.out⟩
        · have hkl : k = l.length := by omega
          subst hkl
          obtain rfl : t = true := HT.out.trans (okL_yes (by have := hal.out; rwa [List.take_length] at this) G.out.1 G.out.2.2)
          rw [List.take_length] at hln
          have HL := Lib.hid hln
          clear hal hln HT
          go_wp2
          go_ret2
          exact ⟨_, rfl, fun _ => HL.out, hbel⟩
    · have e3 : decide (12 < (l.length : Int)) = true := by simp; omega
      obtain rfl : t = false := HT.out.trans (okL_big (n := n) h12)
      clear hN hN2 h12 HT
      go_enter Try.func47, Try.ntmps47
      go_wp2
      go_ret2
      exact ⟨_, rfl, (by intro h; cases h), Below.refl _ w⟩
  · rw [Bool.not_eq_true] at hN
    obtain rfl : t = false := HT.out.trans (okL_n (l := l) hN)
    clear HT
    have hN2 : ¬ (1 ≤ n ∧ n ≤ 5) := by intro h; rw [okN_iff.2 h] at hN; cases hN
    clear hN
    by_cases h1 : n < 1
    · have e1 : decide (n < 1) = true := by simp; omega
      clear h1 hN2
      go_enter Try.func47, Try.ntmps47
      go_wp2
      go_ret2
      exact ⟨_, rfl, (by intro h; cases h), Below.refl _ w⟩
    · have e1 : decide (n < 1) = false := by simp; omega
      have e2 : decide (5 < n) = true := by simp; omega
      clear h1 hN2
      go_enter Try.func47, Try.ntmps47
      go_wp2
      go_ret2
      exact ⟨_, rfl, (by intro h; cases h), Below.refl _ w⟩

/-- The number of the block that a pointer names, and one. -/
def blkOf : Value → Nat
  | .pointer (some a) => a.block + 1
  | _ => 0
theorem bne_zero {b : Int} (h : b ≠ 0) : (b != 0) = true := by simpa using h
theorem bne_zero2 {b : Int} (h : b = 0) : (b != 0) = false := by simp [h]
set_option maxRecDepth 100000 in
set_option maxHeartbeats 1600000 in
theorem confI_any (R : List En) (v : Value) (N : Nat) (s : Int) (w : World) (h : LN w N R v) (hN : N ≤ w.heap.size) (hs : 0 ≤ s ∧ s ≤ 100) (hR : R.length ≤ 100) :
    Calls Try.prog 49 #[v, .int .i64 s] w fun e w' => e = .returned (.int .i64 (confR R s)) ∧ Below w.heap.size w w' := by
  obtain ⟨t, ht⟩ : ∃ t, t = confR R s := ⟨_, rfl⟩
  rw [← ht]
  have HT := Lib.hid ht
  have H0 := Lib.hid h
  clear ht h
  go_enter Try.func49, Try.ntmps49
  go_wp2
  go_loopw [5] (fun v wr => ∃ (r : List En) (m : Nat), m ≤ wr.heap.size ∧ r.length ≤ 100 ∧ LN wr m r v ∧ Hid (t = confR r s) ∧ Below w.heap.size w wr) (fun v _ => blkOf v)
  case atStart => exact ⟨R, N, hN, hR, H0.out, HT.out, Below.refl _ w⟩
  case round =>
    clear H0 HT
    obtain ⟨r, m, hm, hr, hln, htr, hbel⟩ := hrel
    cases r with
    | nil =>
      obtain rfl : _ = Value.pointer none := hln
      obtain rfl : t = 1 := htr.out
      clear htr
      go_wp2
      go_ret
      exact ⟨rfl, hbel⟩
    | cons x r =>
      obtain ⟨g, p, rfl, hg, hb, hln⟩ := hln
      obtain ⟨c0, c1, c2, c3⟩ := LN.cells hb
      obtain ⟨q, rfl⟩ := hln.ptr
      obtain ⟨x0, x1⟩ := x
      simp only at c0 c1
      have hr2 : r.length ≤ 99 := by simp at hr; omega
      have HH := Lib.hid (And.intro hb (And.intro hln (show g ≤ wr.heap.size by omega)))
      have HM := Lib.hid hm
      clear hb hln hm hr
      go_wp2_with fail
      refine (isChange_any (x0, x1) _).mono ?_
      rintro e w2 ⟨rfl, b2⟩
      have hz := b2.size
      have HB := Lib.hid (below_step hbel b2)
      obtain ⟨d0, d1, d2, d3⟩ := LN.cells (x := (x0, x1)) ((b2.block g (Nat.lt_of_lt_of_le hg HM.out)).trans HH.out.1)
      have HL := Lib.hid (HH.out.2.1.below HH.out.2.2 b2)
      have hgl : g ≤ w2.heap.size := Nat.le_trans HH.out.2.2 hz
      simp only at d0 d1
      clear c0 c1 c2 c3 b2 hbel HH
      by_cases hx : x1 = 0
      · subst hx
        have E := Lib.hid (show t = confR r s by rw [htr.out, confR, if_neg (by simp)])
        have hb2 : ((0 : Int) != 0) = false := rfl
        simp only [hb2]
        clear htr
        go_wp2
        go_roundw
        case rel => exact ⟨r, g, hgl, by omega, HL.out, E, HB.out⟩
        case measure =>
          cases r with
          | nil => obtain rfl : q = none := by have := HL.out; simpa [LN] using this
                   simp [blkOf]
          | cons y r => obtain ⟨g2, p2, e2, hg2, _⟩ := HL.out; injection e2 with e2; subst e2; simpa [blkOf] using hg2
      · have hb2 := bne_zero hx
        simp only [hb2]
        by_cases hi : (r.length : Int) + 2 ≤ s
        · obtain rfl : t = x1 := by rw [htr.out, confR, if_pos ⟨hx, hi⟩]
          have hi2 : decide ((r.length : Int) ≤ s - 2) = true := by simp; omega
          clear htr hi hx hb2
          go_wp2
          go_ret
          exact ⟨rfl, HB.out⟩
        · have E := Lib.hid (show t = confR r s by rw [htr.out, confR, if_neg (by intro h; exact hi h.2)])
          have hi2 : decide ((r.length : Int) ≤ s - 2) = false := by simp; omega
          clear htr hi hx hb2
          go_wp2
          go_roundw
          case rel => exact ⟨r, g, hgl, by omega, HL.out, E, HB.out⟩
          case measure =>
            cases r with
            | nil => obtain rfl : q = none := by have := HL.out; simpa [LN] using this
                     simp [blkOf]
            | cons y r => obtain ⟨g2, p2, e2, hg2, _⟩ := HL.out; injection e2 with e2; subst e2; simpa [blkOf] using hg2
end Go.Proofs.Ytimijinldhpmfaa
