/- Logs: the entries of the list in order, and the program's functions, by their contracts. -/
import Derived.Test.YtimijinldhpmfaaLgI
namespace Go.Proofs.Ytimijinldhpmfaa
open Go.RowKit

/-- A row of the list's length of which the cells from the k-th entry on are right. -/
def RD (w : World) (g : Nat) (l : List En) (k : Nat) : Prop :=
  ∃ T cur, w.heap[g]? = some (.cells cur T (0, 0)) ∧ cur.size = l.length * 2 ∧ ∀ j, k * 2 ≤ j → cur[j]? = (ens l)[j]?
section
variable {w w' : World} {g k : Nat} {l : List En}
theorem RD.lt (h : RD w g l k) : g < w.heap.size := by obtain ⟨T, cur, h, _⟩ := h; exact (Array.getElem?_eq_some_iff.1 h).1
theorem RD.kept (h : RD w g l k) (hb : w'.heap[g]? = w.heap[g]?) : RD w' g l k := by obtain ⟨T, cur, h1, h2⟩ := h; exact ⟨T, cur, hb.trans h1, h2⟩
theorem RD.fz (h : RD w g l k) (j : Nat) : w.frozen? ⟨g, j, none⟩ = false := by obtain ⟨T, cur, h, _⟩ := h; exact frozen_of_row w g j _ _ h
theorem RD.cellAt (h : RD w g l k) {j : Nat} (hj : j < l.length * 2) : ∃ u, w.cell? ⟨g, j, none⟩ = some u := by
  obtain ⟨T, cur, h, hs, _⟩ := h
  exact ⟨cur[j]'(by omega), by rw [cell_of_row w g j _ _ (0, 0) h]; exact Array.getElem?_eq_getElem (by omega)⟩
theorem RD.next (h : RD w g l (k + 1)) {x : En} (hx : l[k]? = some x) :
    RD ((w.setCell ⟨g, k * 2, none⟩ (.int .i64 x.1)).setCell ⟨g, k * 2 + 1, none⟩ (.int .i64 x.2)) g l k := by
  obtain ⟨T, cur, h1, h2, h3⟩ := h
  obtain ⟨e0, e1⟩ := ens_at l k x hx
  have hk : k < l.length := (List.getElem?_eq_some_iff.1 hx).1
  refine ⟨T, _, heap_setCell_same _ _ _ _ _ _ (heap_setCell_same _ _ _ _ _ _ h1), by simpa using h2, fun j hj => ?_⟩
  rw [en_set_at (by simp; omega), en_set_at (by omega)]
  by_cases q1 : k * 2 + 1 = j
  · rw [if_pos q1, ← q1, e1]
  · rw [if_neg q1]
    by_cases q0 : k * 2 = j
    · rw [if_pos q0, ← q0, e0]
    · rw [if_neg q0]
      exact h3 j (by omega)
theorem RD.made {T : Nat} {xs : List Value} (h : w.ownsRow g T 2 (.slice (some ⟨g, 0, none⟩) l.length l.length) l.length xs) : RD w g l l.length := by
  rcases h.2 with ⟨h0, _⟩ | ⟨g', cap, cur, hv, _, hg, _, _, hs, _⟩
  · cases h0
  · injection hv with hA hn hc
    injection hA with hA
    injection hA with hA
    subst hA; subst hc
    refine ⟨_, cur, hg, hs, fun j hj => ?_⟩
    rw [Array.getElem?_eq_none (by omega), List.getElem?_eq_none (by rw [ens_len]; omega)]
theorem RD.rw (h : RD w g l 0) : RWEn w g l.length l l.length := by
  obtain ⟨T, cur, h1, h2, h3⟩ := h
  exact ⟨T, cur, h1, h2, fun j _ => h3 j (by omega)⟩
end
/-- The list in order, in new memory. -/
def Ent (w : World) (l : List En) (e : Ending) (w' : World) : Prop :=
  ∃ A c, e = .returned (.slice A l.length c) ∧ OEn w' w.heap.size w'.heap.size A c l ∧ Below w.heap.size w w'
theorem drop_one {l : List En} {x : En} {r : List En} (h : l.reverse = x :: r) : l[r.length]? = some x := by
  have : l = r.reverse ++ [x] := by rw [← List.reverse_reverse l, h, List.reverse_cons]
  rw [this, List.getElem?_append_right (by simp)]
  simp
set_option maxRecDepth 100000 in
set_option maxHeartbeats 1600000 in
theorem entriesI_any (l : List En) (v : Value) (N : Nat) (w : World) (h : LN w N l.reverse v) (hN : N ≤ w.heap.size) (hl : l.length ≤ 100) :
    Calls Try.prog 54 #[v] w (Ent w l) := by
  obtain ⟨i0, hi0, hz0, hz1, hz2⟩ := info_parts en_info
  obtain ⟨q0, rfl⟩ := h.ptr
  have H0 := Lib.hid h
  clear h
  go_enter Try.func54, Try.ntmps54
  go_wp2_with fail
  refine (lenN_any _ _ _ _ H0.out (by simpa using hl)).mono ?_
  rintro e w1 ⟨rfl, rfl⟩
  rw [List.length_reverse]
  go_wp2_with (at_make; refine wpList_make_full _ rfl (.tmp 6) (.tmp 6) 23 rfl w.heap.size 28 i0 (.agg #[.int .i64 0, .int .i64 0]) 2 Try.underlying23 hi0 hz0 hz1 .i64 .i64 _ _ l.length rfl rfl rfl rfl (by rw [hz2]; omega) (by unfold maxLen; omega) (Nat.le_refl _) ?_)
  intro w1 hown hgrow
  have hb1 : Below w.heap.size w w1 := (Below.refl _ _).grown hgrow (Nat.le_refl _) (by simp)
  have H1 := Lib.hid (And.intro (RD.made (l := l) hown) (And.intro hb1 (H0.out.below hN hb1)))
  clear hgrow hown hb1 H0
  go_wp2
  go_loopw [4] (fun v wr => ∃ (r : List En) (m : Nat), m ≤ w.heap.size ∧ r.length ≤ l.length ∧ LN wr m r v ∧ Hid (r = (l.take r.length).reverse) ∧ RD wr w.heap.size l r.length ∧ Below w.heap.size w wr) (fun v _ => blkOf v)
  case atStart => exact ⟨l.reverse, N, hN, by simp, H1.out.2.2, by simp [Hid], by simpa using H1.out.1, H1.out.2.1⟩
  case round =>
    clear H1
    obtain ⟨r, m, hm, hrl, hln, hrr, hrd, hbel⟩ := hrel
    cases r with
    | nil =>
      obtain rfl : _ = Value.pointer none := hln
      obtain ⟨T, ho⟩ := (RD.rw hrd).own (Nat.le_refl _) (by unfold maxLen; omega)
      have HR := Lib.hid (OEn.of_new ho)
      clear ho hrd hrr hrl
      go_wp2
      go_ret
      exact ⟨_, _, rfl, HR.out, hbel⟩
    | cons x r =>
      obtain ⟨g, p, rfl, hg, hb, hln⟩ := hln
      obtain ⟨c0, c1, c2, c3⟩ := LN.cells hb
      obtain ⟨q, rfl⟩ := hln.ptr
      obtain ⟨x0, x1⟩ := x
      simp only at c0 c1
      have hrl2 : r.length < l.length := by simp at hrl; omega
      have hx : l[r.length]? = some (x0, x1) := by
        have := drop_one hrr.out.symm
        rwa [List.getElem?_take_of_lt (by simp)] at this
      have htl : r = (l.take r.length).reverse := by
        have h2 := hrr.out
        rw [List.length_cons, rev_take hx] at h2
        exact (List.cons.inj h2).2
      obtain ⟨u0, d0⟩ := hrd.cellAt (j := r.length * 2) (by omega)
      obtain ⟨u1, d1⟩ := hrd.cellAt (j := r.length * 2 + 1) (by omega)
      have z0 := hrd.fz (r.length * 2)
      have z1 := hrd.fz (r.length * 2 + 1)
      have hgw : g < w.heap.size := by omega
      have hne : g ≠ w.heap.size := by omega
      have hne2 : w.heap.size ≠ g := by omega
      have hki : (0 : Int) ≤ (r.length : Int) := by omega
      have hki2 : (r.length : Int) < (l.length : Int) := by omega
      have R := Lib.hid (show RD ((wr.setCell ⟨w.heap.size, r.length * 2, none⟩ (.int .i64 x0)).setCell ⟨w.heap.size, r.length * 2 + 1, none⟩ (.int .i64 x1)) w.heap.size l r.length from RD.next (k := r.length) (x := (x0, x1)) (by simpa using hrd) hx)
      have RB := Lib.hid (RWEn.nextB (g := w.heap.size) (k := r.length) hbel (Nat.le_refl _) (x0, x1))
      have RL := Lib.hid (hln.store (g := w.heap.size) (j := r.length * 2) (k := r.length * 2 + 1) (u := .int .i64 x0) (t := .int .i64 x1) (by omega))
      have RC := Lib.hid c3
      have HT := Lib.hid htl
      clear hrd hbel hln hb hrr htl hx hrl
      go_wp2
      go_region
      go_wp2
      go_roundw
      case rel => exact ⟨r, g, by omega, by omega, RL.out.keep (fun _ _ => rfl), HT.out, R.out.kept rfl, below_drewN RB.out 1⟩
      case measure =>
        cases r with
        | nil => obtain rfl : q = none := by have := RL.out; simpa [LN] using this
                 simp [blkOf]
        | cons y r => obtain ⟨g2, p2, e2, hg2, _⟩ := RL.out; injection e2 with e2; subst e2; simpa [blkOf] using hg2

theorem iLogValid_any (A : Option Addr) (c : Nat) (l : List En) (n : Int) (w : World) (ha : EnL w A l) (hl : l.length ≤ 1048577) :
    Calls Try.prog 30 #[.slice A l.length c, .int .i64 n] w fun e w' => e = .returned (.bool (okL l n)) ∧ Below w.heap.size w w' := by
  obtain ⟨t, ht⟩ : ∃ t, t = okL l n := ⟨_, rfl⟩
  have HT := Lib.hid ht
  rw [← ht]
  clear ht
  go_enter Try.func30, Try.ntmps30
  go_wp2_with fail
  refine (logOf_any _ _ _ _ _ ha hl).mono ?_
  rintro e w1 ⟨v, rfl, hv, b1⟩
  rw [← HT.out]
  clear hv ha
  go_wp2
  go_ret
  exact ⟨rfl, b1⟩

set_option maxRecDepth 100000 in
set_option maxHeartbeats 1600000 in
theorem iLogConfig_any (A : Option Addr) (c : Nat) (l : List En) (n s : Int) (w : World) (ha : EnL w A l) (hl : l.length ≤ 1048577) :
    Calls Try.prog 19 #[.slice A l.length c, .int .i64 n, .int .i64 s] w fun e w' => e = .returned (.int .i64 (lconf l n s)) ∧ Below w.heap.size w w' := by
  obtain ⟨r, hr⟩ : ∃ r, r = lconf l n s := ⟨_, rfl⟩
  have HR := Lib.hid hr
  rw [← hr]
  clear hr
  have H0 := Lib.hid ha
  clear ha
  go_enter Try.func19, Try.ntmps19
  go_wp2_with fail
  refine (logOf_any _ _ _ _ _ H0.out hl).mono ?_
  rintro e w1 ⟨v, rfl, hv, b1⟩
  by_cases hok : okL l n = true
  · have HV := Lib.hid (hv hok)
    have HL := (okL_parts hok).2.2
    rw [hok]
    clear hv
    by_cases h0 : s < 0
    · obtain rfl : r = 0 := HR.out.trans (by rw [lconf, if_neg (by intro h; omega)])
      have e1 : decide (s < 0) = true := by simpa using h0
      clear h0 HR hok
      go_wp2
      go_ret
      exact ⟨rfl, b1⟩
    · have e1 : decide (s < 0) = false := by simpa using h0
      have HO := Lib.hid hok
      clear hok
      go_wp2_with fail
      refine (slots_any _ _ _ _ HV.out (by simpa using (by omega : l.length ≤ 100))).mono ?_
      rintro e w2 ⟨rfl, rfl⟩
      rw [List.length_reverse]
      by_cases h1 : (l.length : Int) + 2 ≤ s
      · have e2 : decide ((l.length : Int) + 2 ≤ s) = true := by simpa using h1
        obtain rfl : r = 0 := HR.out.trans (by rw [lconf, if_neg (by intro h; omega)])
        clear h0 h1 HR
        go_wp2
        go_ret
        exact ⟨rfl, b1⟩
      · have e2 : decide ((l.length : Int) + 2 ≤ s) = false := by simpa using h1
        have E := Lib.hid (show confR l.reverse s = r from (confR_l s HO.out).trans (HR.out.trans (by rw [lconf, if_pos ⟨HO.out, by omega, by omega⟩])).symm)
        have hs : 0 ≤ s ∧ s ≤ 100 := by omega
        clear h0 h1 HR
        go_wp2_with fail
        refine (confI_any _ _ _ s _ HV.out (Nat.le_refl _) hs (by simpa using (by omega : l.length ≤ 100))).mono ?_
        rintro e w3 ⟨rfl, b3⟩
        have B := below_step b1 b3
        rw [E.out]
        clear b1 b3 hs e1 e2
        go_wp2
        go_ret
        exact ⟨rfl, B⟩
  · obtain rfl : r = 0 := HR.out.trans (by rw [lconf, if_neg (by intro h; exact hok h.1)])
    rw [Bool.not_eq_true] at hok
    rw [hok]
    clear hv HR hok
    go_wp2
    go_ret
    exact ⟨rfl, b1⟩
end Go.Proofs.Ytimijinldhpmfaa
