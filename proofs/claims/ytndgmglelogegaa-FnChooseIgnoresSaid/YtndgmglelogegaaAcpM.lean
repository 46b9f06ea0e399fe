/- Lists of acceptors: drawn, copied and compared, by their contracts. -/
import Derived.Test.YtndgmglelogegaaAcpL
import Derived.Test.YtndgmglelogegaaAcpF
import Derived.Deep.RegionLaw
namespace Go.Proofs.Ytndgmglelogegaa
open Go.RowKit

theorem acp_info : (Try.prog.info? 24).map (fun i => (i.zero, i.size, i.bytes)) = some (some (AVal 0 0 0), 3, 24) := by kernel_rfl
/-- A row of n states of the call's own, of which the first k read as the list. -/
def RW3 (w : World) (g n : Nat) (l : List Ac) (k : Nat) : Prop :=
  ∃ T cur, w.heap[g]? = some (.cells cur T (0, 0)) ∧ cur.size = n * 3 ∧ ∀ j, j < k * 3 → cur[j]? = (acs l)[j]?
section
variable {w w' : World} {g n k : Nat} {l : List Ac}
theorem RW3.lt (h : RW3 w g n l k) : g < w.heap.size := by obtain ⟨T, cur, h, _⟩ := h; exact (Array.getElem?_eq_some_iff.1 h).1
theorem RW3.kept (h : RW3 w g n l k) (hb : w'.heap[g]? = w.heap[g]?) : RW3 w' g n l k := by obtain ⟨T, cur, h1, h2⟩ := h; exact ⟨T, cur, hb.trans h1, h2⟩
theorem RW3.below (h : RW3 w g n l k) (hb : Below w.heap.size w w') : RW3 w' g n l k := h.kept (hb.block g h.lt)
theorem RW3.fz (h : RW3 w g n l k) (j : Nat) : w.frozen? ⟨g, j, none⟩ = false := by obtain ⟨T, cur, h, _⟩ := h; exact frozen_of_row w g j _ _ h
theorem RW3.cellAt (h : RW3 w g n l k) {j : Nat} (hj : j < n * 3) : ∃ u, w.cell? ⟨g, j, none⟩ = some u := by
  obtain ⟨T, cur, h, hs, _⟩ := h
  exact ⟨cur[j]'(by omega), by rw [cell_of_row w g j _ _ (0, 0) h]; exact Array.getElem?_eq_getElem (by omega)⟩
theorem RW3.al (h : RW3 w g n l l.length) : AL w (some ⟨g, 0, none⟩) l := by
  rcases Nat.eq_zero_or_pos l.length with h0 | h0
  · left; exact List.eq_nil_of_length_eq_zero h0
  · right
    refine ⟨g, 0, rfl, h.lt, fun j u hu => ?_⟩
    obtain ⟨T, cur, h1, h2, h3⟩ := h
    have hj : j < l.length * 3 := by rw [← acs_len]; exact (List.getElem?_eq_some_iff.1 hu).1
    rw [Nat.zero_add, cell_of_row w g j _ _ (0, 0) h1, h3 j hj]
    exact hu
theorem set_at {cur : Array Value} {j i : Nat} {u : Value} (hi : i < cur.size) : (cur.setIfInBounds i u)[j]? = if i = j then some u else cur[j]? := by
  rw [Array.getElem?_setIfInBounds]
  by_cases h : i = j
  · simp [h, h ▸ hi]
  · simp [h]
theorem RW3.next (h : RW3 w g n l k) {x : Ac} (hx : l[k]? = some x) (hk : k < n) :
    RW3 (((w.setCell ⟨g, k * 3, none⟩ (.int .i64 x.1)).setCell ⟨g, k * 3 + 1, none⟩ (.int .i64 x.2.1)).setCell ⟨g, k * 3 + 2, none⟩ (.int .i64 x.2.2)) g n l (k + 1) := by
  obtain ⟨T, cur, h1, h2, h3⟩ := h
  obtain ⟨e0, e1, e2⟩ := acs_at l k x hx
  refine ⟨T, _, heap_setCell_same _ _ _ _ _ _ (heap_setCell_same _ _ _ _ _ _ (heap_setCell_same _ _ _ _ _ _ h1)), by simpa using h2, fun j hj => ?_⟩
  rw [set_at (by simp; omega), set_at (by simp; omega), set_at (by omega)]
  by_cases q2 : k * 3 + 2 = j
  · rw [if_pos q2, ← q2, e2]
  · rw [if_neg q2]
    by_cases q1 : k * 3 + 1 = j
    · rw [if_pos q1, ← q1, e1]
    · rw [if_neg q1]
      by_cases q0 : k * 3 = j
      · rw [if_pos q0, ← q0, e0]
      · rw [if_neg q0]
        exact h3 j (by omega)
theorem RW3.nextB {w0 : World} (hb : Below w0.heap.size w0 w) (hg : w0.heap.size ≤ g) (x : Ac) : Below w0.heap.size w0 (((w.setCell ⟨g, k * 3, none⟩ (.int .i64 x.1)).setCell ⟨g, k * 3 + 1, none⟩ (.int .i64 x.2.1)).setCell ⟨g, k * 3 + 2, none⟩ (.int .i64 x.2.2)) :=
  ((hb.setCell hg _).setCell hg _).setCell hg _
theorem RW3.made {xs : List Value} (h : w.ownsRow g 24 3 (.slice (some ⟨g, 0, none⟩) n n) n xs) : RW3 w g n l 0 := by
  rcases h.2 with ⟨h0, _⟩ | ⟨g', cap, cur, hv, _, hg, _, _, hs, _⟩
  · cases h0
  · injection hv with hA hn hc
    injection hA with hA
    injection hA with hA
    subst hA; subst hc
    exact ⟨_, cur, hg, hs, fun j hj => by omega⟩
end

set_option maxRecDepth 100000 in
set_option maxHeartbeats 1600000 in
theorem toAccS_any (A : Option Addr) (c : Nat) (l : List Ac) (w : World) (ha : AL w A l) (hl : l.length ≤ 1048576) :
    Calls Try.prog 31 #[.slice A l.length c] w fun e w' =>
      e = .returned (.slice (some ⟨w.heap.size, 0, none⟩) l.length l.length) ∧ AL w' (some ⟨w.heap.size, 0, none⟩) l ∧ Below w.heap.size w w' := by
  obtain ⟨i0, hi0, hz0, hz1, hz2⟩ := info_parts acp_info
  go_enter Try.func31, Try.ntmps31
  go_wp2_with (at_make; refine wpList_make_full _ rfl (.tmp 6) (.tmp 6) 35 rfl w.heap.size 24 i0 (AVal 0 0 0) 3 Try.underlying35 hi0 hz0 hz1 .i64 .i64 _ _ l.length rfl rfl rfl rfl (by rw [hz2]; omega) (by unfold maxLen; omega) (Nat.le_refl _) ?_)
  intro w1 hown hgrow
  have hb1 : Below w.heap.size w w1 := (Below.refl _ _).grown hgrow (Nat.le_refl _) (by simp)
  have H0 := Lib.hid (And.intro (RW3.made (l := l) hown) hb1)
  clear hgrow hown hb1
  go_wp2
  go_loopw [4] (fun i wr => ∃ k : Nat, k ≤ l.length ∧ i = .int .i64 k ∧ RW3 wr w.heap.size l.length l k ∧ Below w.heap.size w wr) (fun i _ => l.length - (intOf i).toNat)
  case atStart => exact ⟨0, Nat.zero_le _, rfl, H0.out.1, H0.out.2⟩
  case round =>
    clear H0
    obtain ⟨k, hk, rfl, hown, hbel⟩ := hrel
    by_cases hlt : k < l.length
    · obtain ⟨b, off, x, rfl, hx, c0, c1, c2⟩ := (ha.below hbel).at_ hlt
      have HX := Lib.hid hx
      have hki : (0 : Int) ≤ (k : Int) := by omega
      have hki2 : (k : Int) < (l.length : Int) := by omega
      clear hx
      obtain ⟨x0, x1, x2⟩ := x
      go_wp2_with fail
      refine (toAcc_any x0 x1 x2 _).mono ?_
      rintro e w2 ⟨rfl, b2⟩
      have R := hown.below b2
      have HB := below_step hbel b2
      obtain ⟨u0, d0⟩ := R.cellAt (j := k * 3) (by omega)
      obtain ⟨u1, d1⟩ := R.cellAt (j := k * 3 + 1) (by omega)
      obtain ⟨u2, d2⟩ := R.cellAt (j := k * 3 + 2) (by omega)
      have z0 := R.fz (k * 3)
      have z1 := R.fz (k * 3 + 1)
      have z2 := R.fz (k * 3 + 2)
      have N := Lib.hid (And.intro (R.next HX.out hlt) (RW3.nextB (k := k) HB (Nat.le_refl _) (x0, x1, x2)))
      clear R HB hbel b2 hown c0 c1 c2 HX
      unfold AVal
      go_wp2
      go_roundw
      case rel => exact ⟨k + 1, by omega, by go_num, N.out.1, N.out.2⟩
      case measure => simp [intOf]; omega
    · have hkl : k = l.length := by omega
      subst hkl
      have HR := Lib.hid hown.al
      clear hown
      go_wp2
      go_ret
      exact ⟨rfl, HR.out, hbel⟩

theorem szAcc_any (A : Option Addr) (c : Nat) (l : List Ac) (w : World) (hm : l.length ≤ maxLen) :
    Calls Try.prog 30 #[.slice A l.length c, .int .i64 1048576] w fun e w' => ∃ r : Int, e = .returned (.int .i64 r) ∧ (0 ≤ r ↔ l.length ≤ 1048576) ∧ w = w' := by
  unfold maxLen at hm
  by_cases h : (1048576 : Int) - (l.length : Int) < 0
  · have e1 : decide ((1048576 : Int) - (l.length : Int) < 0) = true := by simpa using h
    clear h
    go_enter Try.func30, Try.ntmps30
    go_wp2
    go_ret
    exact ⟨-1, rfl, by simp at e1; omega, rfl⟩
  · have e1 : decide ((1048576 : Int) - (l.length : Int) < 0) = false := by simpa using h
    clear h
    go_enter Try.func30, Try.ntmps30
    go_wp2
    go_ret
    exact ⟨_, rfl, by simp at e1; omega, rfl⟩

set_option maxRecDepth 100000 in
set_option maxHeartbeats 1600000 in
theorem eqAccS_yes (A B : Option Addr) (c d : Nat) (l : List Ac) (w : World) (ha : AL w A l) (hb : AL w B l) (hl : l.length ≤ 1048576) :
    Calls Try.prog 32 #[.slice A l.length c, .slice B l.length d] w fun e w' => e = .returned (.bool true) ∧ Below w.heap.size w w' := by
  go_enter Try.func32, Try.ntmps32
  go_wp2
  go_loopw [5] (fun i wr => ∃ k : Nat, k ≤ l.length ∧ i = .int .i64 k ∧ Below w.heap.size w wr) (fun i _ => l.length - (intOf i).toNat)
  case atStart => exact ⟨0, Nat.zero_le _, rfl, Below.refl _ w⟩
  case round =>
    obtain ⟨k, hk, rfl, hbel⟩ := hrel
    by_cases hlt : k < l.length
    · obtain ⟨b, off, x, rfl, hx, c0, c1, c2⟩ := (ha.below hbel).at_ hlt
      obtain ⟨b', off', x', rfl, hx', c0', c1', c2'⟩ := (hb.below hbel).at_ hlt
      obtain rfl : x = x' := by rw [hx] at hx'; exact Option.some.inj hx'
      have hki : (0 : Int) ≤ (k : Int) := by omega
      have hki2 : (k : Int) < (l.length : Int) := by omega
      clear hx hx'
      obtain ⟨x0, x1, x2⟩ := x
      have C := eqAcc_same x0 x1 x2
      go_wp2
      go_region_law (first
        | (go_simp; go_at_call 29; refine (C _).mono ?_; rintro e w1 ⟨rfl, b1⟩; have B1 : Below wr.heap.size wr w1 := ⟨b1.os, b1.tape, b1.output, b1.size, b1.block⟩)
        | fail)
      all_goals (
        have HB := Lib.hid (below_step hbel B1)
        clear b1 B1 hbel C c0 c1 c2 c0' c1' c2'
        go_wp2
        go_roundw
        case rel => exact ⟨k + 1, by omega, by go_num, HB.out⟩
        case measure => simp [intOf]; omega)
    · have hkl : k = l.length := by omega
      subst hkl
      go_wp2
      go_ret
      exact ⟨rfl, hbel⟩
end Go.Proofs.Ytndgmglelogegaa
