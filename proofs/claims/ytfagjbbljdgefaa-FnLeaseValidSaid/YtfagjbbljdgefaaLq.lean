/- Leases drawn, by their contracts. -/
import Derived.Test.YtfagjbbljdgefaaAcpF
import Derived.Deep.RegionHeld3
namespace Go.Proofs.Ytfagjbbljdgefaa
open Go.RowKit

theorem D3.lease {w w1 : World} {g p q : Nat} (h : RdX w g p) (hr : RdX w1 g q) (hg : (w.alloc (.cells #[.int .i64 0, .int .i64 0, .int .i64 0] 24)).grownBy w1 (some g)) (x a v : Int) (T : Nat) :
    D3 w g w1.heap.size q x a v (w1.alloc (.cells #[.int .i64 x, .int .i64 a, .int .i64 v] T)) := by
  have hlt := h.lt
  have hs := hg.size
  rw [World.size_alloc] at hs
  have hbm : Below w1.heap.size w1 (w1.alloc (.cells #[.int .i64 x, .int .i64 a, .int .i64 v] T)) := (Below.refl _ w1).alloc (Nat.le_refl _) _
  refine ⟨hlt, by omega, ?_, AF3.new _ _ _ _ _, hr.below hbm, grown_below (grown_trans (World.grownBy_alloc w _ (some g)) hg) hbm⟩
  exact ((AF3.new w 0 0 0 _).grown hg (by omega)).below hbm
/-- What the draw of a lease hands back. -/
def DrawnL (w : World) (g p : Nat) (e : Ending) (w' : World) : Prop :=
  ∃ (h s n : Int) (q : Nat), 0 ≤ h ∧ h ≤ 6 ∧ 0 ≤ s ∧ s ≤ 60 ∧ 0 ≤ n ∧ n ≤ 30 ∧ e = .returned (AVal h s n) ∧ RdX w' g q ∧ q ≤ p + 5 ∧ w.grownBy w' (some g)
theorem res_l92L {W : World} {b : Nat} {p a v : Int} (tmps : Array Value) (h2 : tmps.getD 2 undef = .pointer (some ⟨b, 0, none⟩)) (h : AF3 W b p a v) :
    (results Try.f30 tmps).run Try.prog W = .ok (AVal p a v) W := by
  obtain ⟨q0, q1, q2⟩ := cells3 h.ab
  rw [results_one rfl, h2]
  go_simp
  rfl
/-- Behind the last store, where there is no lease. -/
theorem none_fin {w w1 : World} {g p q : Nat} (h : RdX w g p) (hr : RdX w1 g q) (hg : (w.alloc (.cells #[.int .i64 0, .int .i64 0, .int .i64 0] 24)).grownBy w1 (some g)) :
    AF3 w1 w.heap.size 0 0 0 ∧ AF3 (set3 w1 w.heap.size 0 0 0) w.heap.size 0 0 0 ∧ RdX (set3 w1 w.heap.size 0 0 0) g q ∧ w.grownBy (set3 w1 w.heap.size 0 0 0) (some g) := by
  have hlt := h.lt
  have a := (AF3.new w 0 0 0 24).grown hg (by omega)
  have g1 := grown_trans (World.grownBy_alloc w (.cells #[.int .i64 0, .int .i64 0, .int .i64 0] 24) (some g)) hg
  exact ⟨a, a.set3 0 0 0, ((hr.set hlt _).set hlt _).set hlt _, grown_set (grown_set (grown_set g1 (Nat.le_refl _) _) (Nat.le_refl _) _) (Nat.le_refl _) _⟩

set_option maxRecDepth 100000 in
set_option maxHeartbeats 3200000 in
theorem l92Lease_any (g p : Nat) (w : World) (h : RdX w g p) (hp : p ≤ 900000) :
    Calls Try.prog 30 #[.pointer (some ⟨g, 0, none⟩)] w (DrawnL w g p) := by
  have hr0 : RdX (w.alloc (.cells #[.int .i64 0, .int .i64 0, .int .i64 0] 24)) g p := h.below ((Below.refl _ w).alloc (Nat.le_refl _) _)
  have H := Lib.hid h
  clear h
  go_enter Try.func30, Try.ntmps30
  go_wp2_with fail
  refine (pickX _ _ 5 _ hr0 (by omega) (by omega) (by omega)).mono ?_
  rintro e w1 ⟨x, x0, x1, rfl, hr1, g1⟩
  by_cases hx : x = 0
  · subst hx
    have G := Lib.hid (none_fin H.out hr1 g1)
    clear H hr0 hr1 g1
    obtain ⟨c0, c1, c2⟩ := cells3 G.out.1.ab
    have z0 := G.out.1.fz 0
    have z1 := G.out.1.fz 1
    have z2 := G.out.1.fz 2
    go_wp2
    refine bodyPost_ret (res_l92L _ rfl G.out.2.1) rfl ?_
    exact ⟨0, 0, 0, p + 1, by omega, by omega, by omega, by omega, by omega, by omega, rfl, G.out.2.2.1, by omega, G.out.2.2.2⟩
  · have hxb : (x == 0) = false := by simpa using hx
    clear hx hr0
    go_wp2_with fail
    refine (pickX _ _ 6 _ hr1 (by omega) (by omega) (by omega)).mono ?_
    rintro e w2 ⟨h, h0, h1, rfl, hr2, g2⟩
    have g2 := grown_trans g1 g2
    clear g1 hr1
    go_wp2_with fail
    refine (pickX _ _ 60 _ hr2 (by omega) (by omega) (by omega)).mono ?_
    rintro e w3 ⟨s, s0, s1, rfl, hr3, g3⟩
    have g3 := grown_trans g2 g3
    clear g2 hr2
    go_wp2_with fail
    refine (pickX _ _ 30 _ hr3 (by omega) (by omega) (by omega)).mono ?_
    rintro e w4 ⟨n, n0, n1, rfl, hr4, g4⟩
    have g4 := grown_trans g3 g4
    have D := Lib.hid (D3.lease H.out hr4 g4 (1 + h) s (1 + n) 24)
    clear g3 hr3 hr4 g4
    go_wp2_with fail
    refine (pickX _ _ 30 _ D.out.2.2.2.2.1 (by omega) (by omega) (by omega)).mono ?_
    rintro e w5 ⟨y, y0, y1, rfl, hr, hg⟩
    have D := Lib.hid (D.out.pick hr hg)
    clear hr hg
    by_cases hy : y = 0
    · subst hy
      obtain ⟨d0, d1, d2⟩ := D.out.cs
      have y2 := D.out.2.2.2.1.fz 2
      have D5 := Lib.hid (D.out.set2 0)
      obtain ⟨c0, c1, c2⟩ := D.out.cz
      have z0 := D.out.2.2.1.fz 0
      have z1 := D.out.2.2.1.fz 1
      have z2 := D.out.2.2.1.fz 2
      have hne : ¬ w.heap.size = w4.heap.size := by have := D.out.2.1; omega
      have hne' : ¬ w4.heap.size = w.heap.size := fun h => hne h.symm
      have G := Lib.hid D5.out.fin
      go_wp2
      refine bodyPost_ret (res_l92L _ rfl G.out.1) rfl ?_
      exact ⟨1 + h, s, 0, p + 5, by omega, by omega, by omega, by omega, by omega, by omega, rfl, G.out.2.1, by omega, G.out.2.2⟩
    · have hyb : (y == 0) = false := by simpa using hy
      clear hy
      obtain ⟨d0, d1, d2⟩ := D.out.cs
      obtain ⟨c0, c1, c2⟩ := D.out.cz
      have z0 := D.out.2.2.1.fz 0
      have z1 := D.out.2.2.1.fz 1
      have z2 := D.out.2.2.1.fz 2
      have G := Lib.hid D.out.fin
      go_wp2
      refine bodyPost_ret (res_l92L _ rfl G.out.1) rfl ?_
      exact ⟨1 + h, s, 1 + n, p + 5, by omega, by omega, by omega, by omega, by omega, by omega, rfl, G.out.2.1, by omega, G.out.2.2⟩

/-- While a lease is drawn with more: the reader, the lease, the place for the result. -/
def E4 (w : World) (g B q : Nat) (x a v : Int) (wr : World) : Prop := (w.heap.size < g ∧ g < B) ∧ (∃ p' a' v', AF3 wr w.heap.size p' a' v') ∧ AF3 wr B x a v ∧ RdX wr g q ∧ Below w.heap.size w wr
theorem E4.start {w w1 : World} {g q : Nat} (hg : w.heap.size < g) (hA : ∃ p' a' v', AF3 w1 w.heap.size p' a' v') (hr : RdX w1 g q) (b1 : Below w.heap.size w w1) (x a v : Int) (T : Nat) : E4 w g w1.heap.size q x a v (w1.alloc (.cells #[.int .i64 x, .int .i64 a, .int .i64 v] T)) := by
  have bb : Below w1.heap.size w1 (w1.alloc (.cells #[.int .i64 x, .int .i64 a, .int .i64 v] T)) := (Below.refl _ _).alloc (Nat.le_refl _) _
  obtain ⟨p', a', v', hA⟩ := hA
  exact ⟨⟨hg, hr.lt⟩, ⟨p', a', v', hA.below bb⟩, AF3.new _ _ _ _ _, hr.below bb, below_step b1 bb⟩
section
variable {w wr wr' : World} {g B q : Nat} {x a v : Int}
theorem E4.next (h : E4 w g B q x a v wr) {q' : Nat} (hr : RdX wr' g q') (hg : wr.grownBy wr' (some g)) : E4 w g B q' x a v wr' := by
  obtain ⟨⟨h1, h2⟩, ⟨p', a', v', hA⟩, hB, _, hb⟩ := h
  exact ⟨⟨h1, h2⟩, ⟨p', a', v', hA.grown hg (by omega)⟩, hB.grown hg (by omega), hr, hb.grown hg hb.size (fun k hk => by injection hk with hk; omega)⟩
theorem E4.drew (h : E4 w g B q x a v wr) : E4 w g B q x a v wr.drew := by
  obtain ⟨h1, ⟨p', a', v', hA⟩, hB, hr, hb⟩ := h
  have bb : Below wr.heap.size wr wr.drew := (Below.refl _ _).drew
  exact ⟨h1, ⟨p', a', v', hA.below bb⟩, hB.below bb, hr.below bb, hb.drew⟩
theorem E4.fin (h : E4 w g B q x a v wr) (p' a' v' : Int) : AF3 (set3 wr w.heap.size p' a' v') w.heap.size p' a' v' ∧ Below w.heap.size w (set3 wr w.heap.size p' a' v') ∧ AF3 (set3 wr w.heap.size p' a' v') B x a v := by
  obtain ⟨⟨h1, h2⟩, ⟨p, a, v, hA⟩, hB, hr, hb⟩ := h
  refine ⟨hA.set3 p' a' v', set3_below hb (Nat.le_refl _) p' a' v', ?_⟩
  exact ((hB.kept (Below.heap_setCell _ ⟨w.heap.size, 0, none⟩ _ _ (by simp; omega))).kept (Below.heap_setCell _ ⟨w.heap.size, 1, none⟩ _ _ (by simp; omega))).kept (Below.heap_setCell _ ⟨w.heap.size, 2, none⟩ _ _ (by simp; omega))
theorem E4.S (h : E4 w g B q x a v wr) : (∃ p' a' v', AF3 wr w.heap.size p' a' v') ∧ AF3 wr B x a v := ⟨h.2.1, h.2.2.1⟩
end
def DrewLA (w : World) (e : Ending) (w' : World) : Prop := ∃ h s n now d : Int, 0 ≤ h ∧ h ≤ 6 ∧ 0 ≤ s ∧ s ≤ 60 ∧ 0 ≤ n ∧ n ≤ 30 ∧ -10 ≤ now ∧ now ≤ 120 ∧ -10 ≤ d ∧ d ≤ 10 ∧ e = .returned (.tuple #[AVal h s n, .int .i64 now, .int .i64 d]) ∧ Below w.heap.size w w'
theorem res_drLA {W : World} {b : Nat} {p a v : Int} {y z : Value} (tmps : Array Value) (h2 : tmps.getD 2 undef = .pointer (some ⟨b, 0, none⟩)) (h3 : tmps.getD 3 undef = y) (h4 : tmps.getD 4 undef = z) (h : AF3 W b p a v) :
    (results Try.f15 tmps).run Try.prog W = .ok (.tuple #[AVal p a v, y, z]) W := by
  obtain ⟨q0, q1, q2⟩ := cells3 h.ab
  rw [results_cell_tmp2 rfl, h2, h3, h4]
  go_simp
  rfl
theorem start0 {w w1 : World} (b1 : Below (w.alloc (.cells #[.int .i64 0, .int .i64 0, .int .i64 0] 24)).heap.size (w.alloc (.cells #[.int .i64 0, .int .i64 0, .int .i64 0] 24)) w1) : (∃ p' a' v', AF3 w1 w.heap.size p' a' v') ∧ Below w.heap.size w w1 :=
  ⟨⟨0, 0, 0, (AF3.new w 0 0 0 _).below b1⟩, ((Below.refl _ w).alloc (Nat.le_refl _) _).trans (b1.mono (by simp))⟩

set_option maxRecDepth 100000 in
set_option maxHeartbeats 3200000 in
theorem drawLA_any (A : Option Addr) (c : Nat) (l : List Int) (w : World) (ha : BL w A l) (hc : l.length ≤ c) (hm : l.length ≤ maxLen) (hmc : c ≤ maxLen) :
    Calls Try.prog 15 #[.slice A l.length c] w (DrewLA w) := by
  have hA := Lib.hid (ha.below ((Below.refl _ w).alloc (Nat.le_refl _) (.cells #[.int .i64 0, .int .i64 0, .int .i64 0] 24)))
  clear ha
  go_enter Try.func15, Try.ntmps15
  go_wp2_with fail
  refine (l6Open_any _ _ _ _ hA.out hc hm hmc).mono ?_
  rintro e w1 ⟨rfl, hr1, b1⟩
  rw [World.size_alloc] at hr1
  have H1 := Lib.hid (start0 b1)
  clear b1
  go_wp2_with fail
  refine (l92Lease_any _ _ _ hr1 (by omega)).mono ?_
  rintro e w2 ⟨h, s, n, q, h0, h1, s0, s1, n0, n1, rfl, hr, hq, hg⟩
  obtain ⟨⟨p', a', v', hz⟩, hb⟩ := H1.out
  have D := Lib.hid (E4.start (w := w) (g := w.heap.size + 1) (by omega) ⟨p', a', v', hz.grown hg (by omega)⟩ hr (hb.grown hg hb.size (fun k hk => by injection hk with hk; omega)) h s n 24)
  clear hr hg hz hb hr1 H1
  unfold AVal
  go_wp2_with fail
  have D := Lib.hid D.out.drew
  refine wp_region_noPanic ?_
  refine wp_region_held_drew (S := fun w' => (∃ p' a' v', AF3 w' w.heap.size p' a' v') ∧ AF3 w' w2.heap.size h s n) (by kernel_rfl) D.out.S (fun hH0 => ?_)
  refine wpAnyH_take (i := 3) (v := ?_) rfl (by kernel_rfl) (by kernel_rfl) (by kernel_rfl) (fun _ _ _ h => h) (Or.inl ⟨by kernel_rfl, ?_⟩) (by assumption) ?_
  rotate_left
  · (intro w hSw; go_simp; try with_reducible rfl)
  try simp only [Act.put, List.getElem_toArray, List.getElem_cons_succ, List.getElem_cons_zero, List.setIfInBounds_toArray, List.set_cons_zero, List.set_cons_succ]
  refine wpAnyH_take (i := 6) (v := ?_) rfl (by kernel_rfl) (by kernel_rfl) (by kernel_rfl) (fun _ _ _ h => h) (Or.inl ⟨by kernel_rfl, ?_⟩) (by assumption) ?_
  rotate_left
  · (intro w hSw; go_simp; try with_reducible rfl)
  try simp only [Act.put, List.getElem_toArray, List.getElem_cons_succ, List.getElem_cons_zero, List.setIfInBounds_toArray, List.set_cons_zero, List.set_cons_succ]
  refine wpAnyH_take (i := 9) (v := ?_) rfl (by kernel_rfl) (by kernel_rfl) (by kernel_rfl) (fun _ _ _ h => h) (Or.inl ⟨by kernel_rfl, ?_⟩) (by assumption) ?_
  rotate_left
  · (intro w hSw; go_simp; try with_reducible rfl)
  try simp only [Act.put, List.getElem_toArray, List.getElem_cons_succ, List.getElem_cons_zero, List.setIfInBounds_toArray, List.set_cons_zero, List.set_cons_succ]
  refine wpAnyH_take (i := 11) (v := ?_) rfl (by kernel_rfl) (by kernel_rfl) (by kernel_rfl) (fun _ _ _ h => h) (Or.inl ⟨by kernel_rfl, ?_⟩) (by assumption) ?_
  rotate_left
  · (intro w hSw; go_simp; try with_reducible rfl)
  try simp only [Act.put, List.getElem_toArray, List.getElem_cons_succ, List.getElem_cons_zero, List.setIfInBounds_toArray, List.set_cons_zero, List.set_cons_succ]
  refine wpAnyH_take (i := 0) (v := ?_) rfl (by kernel_rfl) (by kernel_rfl) (by kernel_rfl) (fun _ _ _ h => h) (Or.inl ⟨by kernel_rfl, ?_⟩) (by assumption) ?_
  rotate_left
  · (intro w hSw; obtain ⟨u0, u1, u2⟩ := cells3 hSw.2.ab; go_simp; try with_reducible rfl)
  try simp only [Act.put, List.getElem_toArray, List.getElem_cons_zero, List.setIfInBounds_toArray, List.set_cons_zero, List.set_cons_succ]
  refine wpAnyH_take (i := 1) (v := ?_) rfl (by kernel_rfl) (by kernel_rfl) (by kernel_rfl) (fun _ _ _ h => h) (Or.inl ⟨by kernel_rfl, ?_⟩) (by assumption) ?_
  rotate_left
  · (intro w hSw; go_simp; try with_reducible rfl)
  try simp only [Act.put, List.getElem_toArray, List.getElem_cons_succ, List.getElem_cons_zero, List.setIfInBounds_toArray, List.set_cons_zero, List.set_cons_succ]
  refine wpAnyH_take (i := 2) (v := ?_) rfl (by kernel_rfl) (by kernel_rfl) (by kernel_rfl) (fun _ _ _ h => h) (Or.inl ⟨by kernel_rfl, ?_⟩) (by assumption) ?_
  rotate_left
  · (intro w hSw; obtain ⟨u0, u1, u2⟩ := cells3 hSw.2.ab; go_simp; try with_reducible rfl)
  try simp only [Act.put, List.getElem_toArray, List.getElem_cons_succ, List.getElem_cons_zero, List.setIfInBounds_toArray, List.set_cons_zero, List.set_cons_succ]
  refine wpAnyH_ready (rs := [4]) (by kernel_rfl) (by simp) ?_
  refine AllReadyH.cons rfl (fun K hK => ?_) AllReadyH.nil
  go_simp
  refine (pickX _ _ 50 _ D.out.2.2.2.1 (by omega) (by omega) (by omega)).mono ?_
  rintro e w3 ⟨x, x0, x1, rfl, hr, hg⟩
  have D := Lib.hid (D.out.next hr hg)
  clear hr hg
  have hx : IntKind.i64.wrap (s + x) = s + x := IntWalk.i64_in _ (by omega)
  refine hK.out _ _ ?_ (fun hH => ?_)
  · exact D.out.S
  clear hK K
  try simp only [Act.put, List.getElem_toArray, List.getElem_cons_succ, List.getElem_cons_zero, List.setIfInBounds_toArray, List.set_cons_zero, List.set_cons_succ]
  refine wpAnyH_take (i := 5) (v := ?_) rfl (by kernel_rfl) (by kernel_rfl) (by kernel_rfl) (fun _ _ _ h => h) (Or.inl ⟨by kernel_rfl, ?_⟩) (by assumption) ?_
  rotate_left
  · (intro w hSw; go_simp; try with_reducible rfl)
  try simp only [Act.put, List.getElem_toArray, List.getElem_cons_succ, List.getElem_cons_zero, List.setIfInBounds_toArray, List.set_cons_zero, List.set_cons_succ]
  refine wpAnyH_ready (rs := [7]) (by kernel_rfl) (by simp) ?_
  refine AllReadyH.cons rfl (fun K hK => ?_) AllReadyH.nil
  go_simp
  refine (pickX _ _ 8 _ D.out.2.2.2.1 (by omega) (by omega) (by omega)).mono ?_
  rintro e w3 ⟨y, y0, y1, rfl, hr, hg⟩
  have D := Lib.hid (D.out.next hr hg)
  clear hr hg
  have hy : IntKind.i64.wrap (s + x - y) = s + x - y := IntWalk.i64_in _ (by omega)
  refine hK.out _ _ ?_ (fun hH => ?_)
  · exact D.out.S
  clear hK K
  try simp only [Act.put, List.getElem_toArray, List.getElem_cons_succ, List.getElem_cons_zero, List.setIfInBounds_toArray, List.set_cons_zero, List.set_cons_succ]
  refine wpAnyH_take (i := 8) (v := ?_) rfl (by kernel_rfl) (by kernel_rfl) (by kernel_rfl) (fun _ _ _ h => h) (Or.inl ⟨by kernel_rfl, ?_⟩) (by assumption) ?_
  rotate_left
  · (intro w hSw; go_simp; try with_reducible rfl)
  try simp only [Act.put, List.getElem_toArray, List.getElem_cons_succ, List.getElem_cons_zero, List.setIfInBounds_toArray, List.set_cons_zero, List.set_cons_succ]
  refine wpAnyH_ready (rs := [10]) (by kernel_rfl) (by simp) ?_
  refine AllReadyH.cons rfl (fun K hK => ?_) AllReadyH.nil
  go_simp
  refine (pickX _ _ 8 _ D.out.2.2.2.1 (by omega) (by omega) (by omega)).mono ?_
  rintro e w3 ⟨z, z0, z1, rfl, hr, hg⟩
  have D := Lib.hid (D.out.next hr hg)
  clear hr hg
  refine hK.out _ _ ?_ (fun hH => ?_)
  · exact D.out.S
  clear hK K
  try simp only [Act.put, List.getElem_toArray, List.getElem_cons_succ, List.getElem_cons_zero, List.setIfInBounds_toArray, List.set_cons_zero, List.set_cons_succ]
  refine wpAnyH_ready (rs := [12]) (by kernel_rfl) (by simp) ?_
  refine AllReadyH.cons rfl (fun K hK => ?_) AllReadyH.nil
  go_simp
  refine (pickX _ _ 24 _ D.out.2.2.2.1 (by omega) (by omega) (by omega)).mono ?_
  rintro e w3 ⟨t, t0, t1, rfl, hr, hg⟩
  have D := Lib.hid (D.out.next hr hg)
  clear hr hg
  obtain ⟨t3, t4⟩ := quo_small t0 t1
  have t5 : IntKind.i64.wrap (t.tdiv 23) = t / 23 := by rw [Int.tdiv_eq_ediv_of_nonneg t0]; exact IntWalk.i64_in _ (by omega)
  have ht : IntKind.i64.wrap (t / 23 * 9) = t / 23 * 9 := IntWalk.i64_in _ (by omega)
  have ht' : IntKind.i64.wrap (z - t / 23 * 9) = z - t / 23 * 9 := IntWalk.i64_in _ (by omega)
  refine hK.out _ _ ?_ (fun hH => ?_)
  · exact D.out.S
  clear hK K
  try simp only [Act.put, List.getElem_toArray, List.getElem_cons_succ, List.getElem_cons_zero, List.setIfInBounds_toArray, List.set_cons_zero, List.set_cons_succ]
  refine wpAnyH_take (i := 13) (v := ?_) rfl (by kernel_rfl) (by kernel_rfl) (by kernel_rfl) (fun _ _ _ h => h) (Or.inl ⟨by kernel_rfl, ?_⟩) (by assumption) ?_
  rotate_left
  · (intro w hSw; go_simp; try with_reducible rfl)
  try simp only [Act.put, List.getElem_toArray, List.getElem_cons_succ, List.getElem_cons_zero, List.setIfInBounds_toArray, List.set_cons_zero, List.set_cons_succ]
  refine wpAnyH_take (i := 14) (v := ?_) rfl (by kernel_rfl) (by kernel_rfl) (by kernel_rfl) (fun _ _ _ h => h) (Or.inl ⟨by kernel_rfl, ?_⟩) (by assumption) ?_
  rotate_left
  · (intro w hSw; go_simp; try with_reducible rfl)
  try simp only [Act.put, List.getElem_toArray, List.getElem_cons_succ, List.getElem_cons_zero, List.setIfInBounds_toArray, List.set_cons_zero, List.set_cons_succ]
  refine wpAnyH_take (i := 15) (v := ?_) rfl (by kernel_rfl) (by kernel_rfl) (by kernel_rfl) (fun _ _ _ h => h) (Or.inl ⟨by kernel_rfl, ?_⟩) (by assumption) ?_
  rotate_left
  · (intro w hSw; go_simp; try with_reducible rfl)
  try simp only [Act.put, List.getElem_toArray, List.getElem_cons_succ, List.getElem_cons_zero, List.setIfInBounds_toArray, List.set_cons_zero, List.set_cons_succ]
  refine wpAnyH_ready (rs := [16]) (by kernel_rfl) (by simp) ?_
  refine AllReadyH.cons rfl (fun K hK => ?_) AllReadyH.nil
  obtain ⟨p1, a1, v1, hz⟩ := D.out.2.1
  obtain ⟨d0, d1, d2⟩ := cells3 hz.ab
  have f0 := hz.fz 0
  have f1 := hz.fz 1
  have f2 := hz.fz 2
  go_simp
  refine hK.out _ _ ?_ (fun hH => ?_)
  · exact ⟨⟨h, s, n, (D.out.fin h s n).1⟩, (D.out.fin h s n).2.2⟩
  clear hK K
  try simp only [Act.put, List.getElem_toArray, List.getElem_cons_succ, List.getElem_cons_zero, List.setIfInBounds_toArray, List.set_cons_zero, List.set_cons_succ]
  refine wpAnyH_take (i := 17) (v := ?_) rfl (by kernel_rfl) (by kernel_rfl) (by kernel_rfl) (fun _ _ _ h => h) (Or.inl ⟨by kernel_rfl, ?_⟩) (by assumption) ?_
  rotate_left
  · (intro w hSw; go_simp; try with_reducible rfl)
  try simp only [Act.put, List.getElem_toArray, List.getElem_cons_succ, List.getElem_cons_zero, List.setIfInBounds_toArray, List.set_cons_zero, List.set_cons_succ]
  refine wpAnyH_take (i := 18) (v := ?_) rfl (by kernel_rfl) (by kernel_rfl) (by kernel_rfl) (fun _ _ _ h => h) (Or.inl ⟨by kernel_rfl, ?_⟩) (by assumption) ?_
  rotate_left
  · (intro w hSw; go_simp; try with_reducible rfl)
  try simp only [Act.put, List.getElem_toArray, List.getElem_cons_succ, List.getElem_cons_zero, List.setIfInBounds_toArray, List.set_cons_zero, List.set_cons_succ]
  refine wpAnyH_done (by kernel_rfl) ?_ _
  refine NoPanic.normal ?_
  go_wp2
  refine bodyPost_ret (res_drLA _ rfl rfl rfl (D.out.fin h s n).1) rfl ?_
  exact ⟨h, s, n, s + x - y, z - t / 23 * 9, h0, h1, s0, s1, n0, n1, by omega, by omega, by omega, by omega, rfl, (D.out.fin h s n).2.1⟩
theorem res_drLE {W : World} {b : Nat} {p a v : Int} {y z : Value} (tmps : Array Value) (h2 : tmps.getD 2 undef = .pointer (some ⟨b, 0, none⟩)) (h3 : tmps.getD 3 undef = y) (h4 : tmps.getD 4 undef = z) (h : AF3 W b p a v) :
    (results Try.f20 tmps).run Try.prog W = .ok (.tuple #[AVal p a v, y, z]) W := by
  obtain ⟨q0, q1, q2⟩ := cells3 h.ab
  rw [results_cell_tmp2 rfl, h2, h3, h4]
  go_simp
  rfl
set_option maxRecDepth 100000 in
set_option maxHeartbeats 1600000 in
theorem drawLE_any (A : Option Addr) (c : Nat) (l : List Int) (w : World) (ha : BL w A l) (hc : l.length ≤ c) (hm : l.length ≤ maxLen) (hmc : c ≤ maxLen) :
    Calls Try.prog 20 #[.slice A l.length c] w (DrewLA w) := by
  have hA := Lib.hid (ha.below ((Below.refl _ w).alloc (Nat.le_refl _) (.cells #[.int .i64 0, .int .i64 0, .int .i64 0] 24)))
  clear ha
  go_enter Try.func20, Try.ntmps20
  go_wp2_with fail
  refine (drawLA_any _ _ _ _ hA.out hc hm hmc).mono ?_
  rintro e w1 ⟨h, s, n, now, d, h0, h1, s0, s1, n0, n1, t0, t1, d0, d1, rfl, b1⟩
  have H1 := Lib.hid (And.intro ((AF3.new w 0 0 0 24).below b1) (start0 b1).2)
  clear b1
  obtain ⟨c0, c1, c2⟩ := cells3 H1.out.1.ab
  have z0 := H1.out.1.fz 0
  have z1 := H1.out.1.fz 1
  have z2 := H1.out.1.fz 2
  unfold AVal
  go_wp2
  refine bodyPost_ret (res_drLE _ rfl rfl rfl (H1.out.1.set3 h s n)) rfl ?_
  exact ⟨h, s, n, now, d, h0, h1, s0, s1, n0, n1, t0, t1, d0, d1, rfl, set3_below H1.out.2 (Nat.le_refl _) h s n⟩
def DrewLG (w : World) (e : Ending) (w' : World) : Prop := ∃ h s n h' now len d : Int, 0 ≤ h ∧ h ≤ 6 ∧ 0 ≤ s ∧ s ≤ 60 ∧ 0 ≤ n ∧ n ≤ 30 ∧ 1 ≤ h' ∧ h' ≤ 6 ∧ -10 ≤ now ∧ now ≤ 120 ∧ 1 ≤ len ∧ len ≤ 30 ∧ -10 ≤ d ∧ d ≤ 10 ∧ e = .returned (.tuple #[AVal h s n, .int .i64 h', .int .i64 now, .int .i64 len, .int .i64 d]) ∧ Below w.heap.size w w'
theorem results_cell_tmp4 {fn : Func} {p u v x y : Tmp} {ty : TypeId} (h : fn.results = #[.cell p ty, .tmp u, .tmp v, .tmp x, .tmp y]) (tmps : Array Value) (P : Program) (w : World) :
    (results fn tmps).run P w =
      ((asAddr (tmps.getD p undef)).run P w).andThen fun a w₁ => ((loadVar ty a).run P w₁).andThen fun z w₂ => .ok (.tuple #[z, tmps.getD u undef, tmps.getD v undef, tmps.getD x undef, tmps.getD y undef]) w₂ := by
  simp only [results, h]
  simp [Sem.run_bind, Result.andThen]
theorem res_drLG {W : World} {b : Nat} {p a v : Int} {y z t u : Value} (tmps : Array Value) (h2 : tmps.getD 2 undef = .pointer (some ⟨b, 0, none⟩)) (h3 : tmps.getD 3 undef = y) (h4 : tmps.getD 4 undef = z) (h5 : tmps.getD 5 undef = t) (h6 : tmps.getD 6 undef = u) (h : AF3 W b p a v) :
    (results Try.f22 tmps).run Try.prog W = .ok (.tuple #[AVal p a v, y, z, t, u]) W := by
  obtain ⟨q0, q1, q2⟩ := cells3 h.ab
  rw [results_cell_tmp4 rfl, h2, h3, h4, h5, h6]
  go_simp
  rfl
set_option maxRecDepth 100000 in
set_option maxHeartbeats 3200000 in
theorem drawLG_any (A : Option Addr) (c : Nat) (l : List Int) (w : World) (ha : BL w A l) (hc : l.length ≤ c) (hm : l.length ≤ maxLen) (hmc : c ≤ maxLen) :
    Calls Try.prog 22 #[.slice A l.length c] w (DrewLG w) := by
  have hA := Lib.hid (ha.below ((Below.refl _ w).alloc (Nat.le_refl _) (.cells #[.int .i64 0, .int .i64 0, .int .i64 0] 24)))
  clear ha
  go_enter Try.func22, Try.ntmps22
  go_wp2_with fail
  refine (l6Open_any _ _ _ _ hA.out hc hm hmc).mono ?_
  rintro e w1 ⟨rfl, hr1, b1⟩
  rw [World.size_alloc] at hr1
  have H1 := Lib.hid (And.intro (start0 b1) (And.intro hr1 (hA.out.below b1)))
  clear b1 hr1
  go_wp2_with fail
  refine (drawLA_any _ _ _ _ H1.out.2.2 hc hm hmc).mono ?_
  rintro e w2 ⟨h, s, n, now, d, h0, h1, s0, s1, n0, n1, t0, t1, d0, d1, rfl, b2⟩
  have D := Lib.hid (E4.start (w := w) (g := w.heap.size + 1) (by omega) (by obtain ⟨⟨p', a', v', hz⟩, hb⟩ := H1.out.1; exact ⟨p', a', v', hz.below b2⟩) (H1.out.2.1.below b2) (below_step H1.out.1.2 b2) h s n 24)
  clear b2 hA
  unfold AVal
  go_wp2_with fail
  refine (pickX _ _ 6 _ D.out.2.2.2.1 (by omega) (by omega) (by omega)).mono ?_
  rintro e w3 ⟨x, x0, x1, rfl, hr, hg⟩
  have D := Lib.hid (D.out.next hr hg)
  clear hr hg
  obtain ⟨c0, c1, c2⟩ := cells3 D.out.2.2.1.ab
  by_cases hh : 0 < h
  · have hhb : decide (0 < h) = true := by simpa using hh
    go_wp2_with fail
    refine (pickX _ _ 2 _ D.out.2.2.2.1 (by omega) (by omega) (by omega)).mono ?_
    rintro e w4 ⟨z, z0, z1, rfl, hr, hg⟩
    have D := Lib.hid (D.out.next hr hg)
    clear hr hg c0 c1 c2
    obtain ⟨c0, c1, c2⟩ := cells3 D.out.2.2.1.ab
    by_cases hz : z = 0
    · have hzb : (z == 0) = true := by simpa using hz
      clear hz
      go_wp2_with fail
      have D := Lib.hid D.out.drew
      refine wp_region_noPanic ?_
      refine wp_region_held_drew (S := fun w' => (∃ p' a' v', AF3 w' w.heap.size p' a' v') ∧ AF3 w' w2.heap.size h s n) (by kernel_rfl) D.out.S (fun hH0 => ?_)
      refine wpAnyH_take (i := 1) (v := ?_) rfl (by kernel_rfl) (by kernel_rfl) (by kernel_rfl) (fun _ _ _ h => h) (Or.inl ⟨by kernel_rfl, ?_⟩) (by assumption) ?_
      rotate_left
      · (intro w hSw; go_simp; try with_reducible rfl)
      try simp only [Act.put, List.getElem_toArray, List.getElem_cons_succ, List.getElem_cons_zero, List.setIfInBounds_toArray, List.set_cons_zero, List.set_cons_succ]
      refine wpAnyH_take (i := 2) (v := ?_) rfl (by kernel_rfl) (by kernel_rfl) (by kernel_rfl) (fun _ _ _ h => h) (Or.inl ⟨by kernel_rfl, ?_⟩) (by assumption) ?_
      rotate_left
      · (intro w hSw; go_simp; try with_reducible rfl)
      try simp only [Act.put, List.getElem_toArray, List.getElem_cons_succ, List.getElem_cons_zero, List.setIfInBounds_toArray, List.set_cons_zero, List.set_cons_succ]
      refine wpAnyH_take (i := 3) (v := ?_) rfl (by kernel_rfl) (by kernel_rfl) (by kernel_rfl) (fun _ _ _ h => h) (Or.inl ⟨by kernel_rfl, ?_⟩) (by assumption) ?_
      rotate_left
      · (intro w hSw; go_simp; try with_reducible rfl)
      try simp only [Act.put, List.getElem_toArray, List.getElem_cons_succ, List.getElem_cons_zero, List.setIfInBounds_toArray, List.set_cons_zero, List.set_cons_succ]
      refine wpAnyH_take (i := 0) (v := ?_) rfl (by kernel_rfl) (by kernel_rfl) (by kernel_rfl) (fun _ _ _ h => h) (Or.inl ⟨by kernel_rfl, ?_⟩) (by assumption) ?_
      rotate_left
      · (intro w hSw; obtain ⟨u0, u1, u2⟩ := cells3 hSw.2.ab; go_simp; try with_reducible rfl)
      try simp only [Act.put, List.getElem_toArray, List.getElem_cons_zero, List.setIfInBounds_toArray, List.set_cons_zero, List.set_cons_succ]
      refine wpAnyH_take (i := 6) (v := ?_) rfl (by kernel_rfl) (by kernel_rfl) (by kernel_rfl) (fun _ _ _ h => h) (Or.inl ⟨by kernel_rfl, ?_⟩) (by assumption) ?_
      rotate_left
      · (intro w hSw; go_simp; try with_reducible rfl)
      try simp only [Act.put, List.getElem_toArray, List.getElem_cons_succ, List.getElem_cons_zero, List.setIfInBounds_toArray, List.set_cons_zero, List.set_cons_succ]
      refine wpAnyH_ready (rs := [4]) (by kernel_rfl) (by simp) ?_
      refine AllReadyH.cons rfl (fun K hK => ?_) AllReadyH.nil
      go_simp
      refine (pickX _ _ 30 _ D.out.2.2.2.1 (by omega) (by omega) (by omega)).mono ?_
      rintro e w3 ⟨y, y0, y1, rfl, hr, hg⟩
      have D := Lib.hid (D.out.next hr hg)
      clear hr hg
      have hy : IntKind.i64.wrap (1 + y) = 1 + y := IntWalk.i64_in _ (by omega)
      refine hK.out _ _ ?_ (fun hH => ?_)
      · exact D.out.S
      clear hK K
      try simp only [Act.put, List.getElem_toArray, List.getElem_cons_succ, List.getElem_cons_zero, List.setIfInBounds_toArray, List.set_cons_zero, List.set_cons_succ]
      refine wpAnyH_take (i := 5) (v := ?_) rfl (by kernel_rfl) (by kernel_rfl) (by kernel_rfl) (fun _ _ _ h => h) (Or.inl ⟨by kernel_rfl, ?_⟩) (by assumption) ?_
      rotate_left
      · (intro w hSw; go_simp; try with_reducible rfl)
      try simp only [Act.put, List.getElem_toArray, List.getElem_cons_succ, List.getElem_cons_zero, List.setIfInBounds_toArray, List.set_cons_zero, List.set_cons_succ]
      refine wpAnyH_ready (rs := [7]) (by kernel_rfl) (by simp) ?_
      refine AllReadyH.cons rfl (fun K hK => ?_) AllReadyH.nil
      obtain ⟨p1, a1, v1, hz⟩ := D.out.2.1
      obtain ⟨k0, k1, k2⟩ := cells3 hz.ab
      have f0 := hz.fz 0
      have f1 := hz.fz 1
      have f2 := hz.fz 2
      go_simp
      refine hK.out _ _ ?_ (fun hH => ?_)
      · exact ⟨⟨h, s, n, (D.out.fin h s n).1⟩, (D.out.fin h s n).2.2⟩
      clear hK K
      try simp only [Act.put, List.getElem_toArray, List.getElem_cons_succ, List.getElem_cons_zero, List.setIfInBounds_toArray, List.set_cons_zero, List.set_cons_succ]
      refine wpAnyH_take (i := 8) (v := ?_) rfl (by kernel_rfl) (by kernel_rfl) (by kernel_rfl) (fun _ _ _ h => h) (Or.inl ⟨by kernel_rfl, ?_⟩) (by assumption) ?_
      rotate_left
      · (intro w hSw; go_simp; try with_reducible rfl)
      try simp only [Act.put, List.getElem_toArray, List.getElem_cons_succ, List.getElem_cons_zero, List.setIfInBounds_toArray, List.set_cons_zero, List.set_cons_succ]
      refine wpAnyH_take (i := 9) (v := ?_) rfl (by kernel_rfl) (by kernel_rfl) (by kernel_rfl) (fun _ _ _ h => h) (Or.inl ⟨by kernel_rfl, ?_⟩) (by assumption) ?_
      rotate_left
      · (intro w hSw; go_simp; try with_reducible rfl)
      try simp only [Act.put, List.getElem_toArray, List.getElem_cons_succ, List.getElem_cons_zero, List.setIfInBounds_toArray, List.set_cons_zero, List.set_cons_succ]
      refine wpAnyH_take (i := 10) (v := ?_) rfl (by kernel_rfl) (by kernel_rfl) (by kernel_rfl) (fun _ _ _ h => h) (Or.inl ⟨by kernel_rfl, ?_⟩) (by assumption) ?_
      rotate_left
      · (intro w hSw; go_simp; try with_reducible rfl)
      try simp only [Act.put, List.getElem_toArray, List.getElem_cons_succ, List.getElem_cons_zero, List.setIfInBounds_toArray, List.set_cons_zero, List.set_cons_succ]
      refine wpAnyH_take (i := 11) (v := ?_) rfl (by kernel_rfl) (by kernel_rfl) (by kernel_rfl) (fun _ _ _ h => h) (Or.inl ⟨by kernel_rfl, ?_⟩) (by assumption) ?_
      rotate_left
      · (intro w hSw; go_simp; try with_reducible rfl)
      try simp only [Act.put, List.getElem_toArray, List.getElem_cons_succ, List.getElem_cons_zero, List.setIfInBounds_toArray, List.set_cons_zero, List.set_cons_succ]
      refine wpAnyH_done (by kernel_rfl) ?_ _
      refine NoPanic.normal ?_
      go_wp2
      refine bodyPost_ret (res_drLG _ rfl rfl rfl rfl rfl (D.out.fin h s n).1) rfl ?_
      exact ⟨h, s, n, h, now, 1 + y, d, h0, h1, s0, s1, n0, n1, by omega, by omega, t0, t1, by omega, by omega, d0, d1, rfl, (D.out.fin h s n).2.1⟩
    · have hzb : (z == 0) = false := by simpa using hz
      clear hz
      go_wp2_with fail
      have D := Lib.hid D.out.drew
      refine wp_region_noPanic ?_
      refine wp_region_held_drew (S := fun w' => (∃ p' a' v', AF3 w' w.heap.size p' a' v') ∧ AF3 w' w2.heap.size h s n) (by kernel_rfl) D.out.S (fun hH0 => ?_)
      refine wpAnyH_take (i := 1) (v := ?_) rfl (by kernel_rfl) (by kernel_rfl) (by kernel_rfl) (fun _ _ _ h => h) (Or.inl ⟨by kernel_rfl, ?_⟩) (by assumption) ?_
      rotate_left
      · (intro w hSw; go_simp; try with_reducible rfl)
      try simp only [Act.put, List.getElem_toArray, List.getElem_cons_succ, List.getElem_cons_zero, List.setIfInBounds_toArray, List.set_cons_zero, List.set_cons_succ]
      refine wpAnyH_take (i := 2) (v := ?_) rfl (by kernel_rfl) (by kernel_rfl) (by kernel_rfl) (fun _ _ _ h => h) (Or.inl ⟨by kernel_rfl, ?_⟩) (by assumption) ?_
      rotate_left
      · (intro w hSw; go_simp; try with_reducible rfl)
      try simp only [Act.put, List.getElem_toArray, List.getElem_cons_succ, List.getElem_cons_zero, List.setIfInBounds_toArray, List.set_cons_zero, List.set_cons_succ]
      refine wpAnyH_take (i := 3) (v := ?_) rfl (by kernel_rfl) (by kernel_rfl) (by kernel_rfl) (fun _ _ _ h => h) (Or.inl ⟨by kernel_rfl, ?_⟩) (by assumption) ?_
      rotate_left
      · (intro w hSw; go_simp; try with_reducible rfl)
      try simp only [Act.put, List.getElem_toArray, List.getElem_cons_succ, List.getElem_cons_zero, List.setIfInBounds_toArray, List.set_cons_zero, List.set_cons_succ]
      refine wpAnyH_take (i := 0) (v := ?_) rfl (by kernel_rfl) (by kernel_rfl) (by kernel_rfl) (fun _ _ _ h => h) (Or.inl ⟨by kernel_rfl, ?_⟩) (by assumption) ?_
      rotate_left
      · (intro w hSw; obtain ⟨u0, u1, u2⟩ := cells3 hSw.2.ab; go_simp; try with_reducible rfl)
      try simp only [Act.put, List.getElem_toArray, List.getElem_cons_zero, List.setIfInBounds_toArray, List.set_cons_zero, List.set_cons_succ]
      refine wpAnyH_take (i := 6) (v := ?_) rfl (by kernel_rfl) (by kernel_rfl) (by kernel_rfl) (fun _ _ _ h => h) (Or.inl ⟨by kernel_rfl, ?_⟩) (by assumption) ?_
      rotate_left
      · (intro w hSw; go_simp; try with_reducible rfl)
      try simp only [Act.put, List.getElem_toArray, List.getElem_cons_succ, List.getElem_cons_zero, List.setIfInBounds_toArray, List.set_cons_zero, List.set_cons_succ]
      refine wpAnyH_ready (rs := [4]) (by kernel_rfl) (by simp) ?_
      refine AllReadyH.cons rfl (fun K hK => ?_) AllReadyH.nil
      go_simp
      refine (pickX _ _ 30 _ D.out.2.2.2.1 (by omega) (by omega) (by omega)).mono ?_
      rintro e w3 ⟨y, y0, y1, rfl, hr, hg⟩
      have D := Lib.hid (D.out.next hr hg)
      clear hr hg
      have hy : IntKind.i64.wrap (1 + y) = 1 + y := IntWalk.i64_in _ (by omega)
      refine hK.out _ _ ?_ (fun hH => ?_)
      · exact D.out.S
      clear hK K
      try simp only [Act.put, List.getElem_toArray, List.getElem_cons_succ, List.getElem_cons_zero, List.setIfInBounds_toArray, List.set_cons_zero, List.set_cons_succ]
      refine wpAnyH_take (i := 5) (v := ?_) rfl (by kernel_rfl) (by kernel_rfl) (by kernel_rfl) (fun _ _ _ h => h) (Or.inl ⟨by kernel_rfl, ?_⟩) (by assumption) ?_
      rotate_left
      · (intro w hSw; go_simp; try with_reducible rfl)
      try simp only [Act.put, List.getElem_toArray, List.getElem_cons_succ, List.getElem_cons_zero, List.setIfInBounds_toArray, List.set_cons_zero, List.set_cons_succ]
      refine wpAnyH_ready (rs := [7]) (by kernel_rfl) (by simp) ?_
      refine AllReadyH.cons rfl (fun K hK => ?_) AllReadyH.nil
      obtain ⟨p1, a1, v1, hz⟩ := D.out.2.1
      obtain ⟨k0, k1, k2⟩ := cells3 hz.ab
      have f0 := hz.fz 0
      have f1 := hz.fz 1
      have f2 := hz.fz 2
      go_simp
      refine hK.out _ _ ?_ (fun hH => ?_)
      · exact ⟨⟨h, s, n, (D.out.fin h s n).1⟩, (D.out.fin h s n).2.2⟩
      clear hK K
      try simp only [Act.put, List.getElem_toArray, List.getElem_cons_succ, List.getElem_cons_zero, List.setIfInBounds_toArray, List.set_cons_zero, List.set_cons_succ]
      refine wpAnyH_take (i := 8) (v := ?_) rfl (by kernel_rfl) (by kernel_rfl) (by kernel_rfl) (fun _ _ _ h => h) (Or.inl ⟨by kernel_rfl, ?_⟩) (by assumption) ?_
      rotate_left
      · (intro w hSw; go_simp; try with_reducible rfl)
      try simp only [Act.put, List.getElem_toArray, List.getElem_cons_succ, List.getElem_cons_zero, List.setIfInBounds_toArray, List.set_cons_zero, List.set_cons_succ]
      refine wpAnyH_take (i := 9) (v := ?_) rfl (by kernel_rfl) (by kernel_rfl) (by kernel_rfl) (fun _ _ _ h => h) (Or.inl ⟨by kernel_rfl, ?_⟩) (by assumption) ?_
      rotate_left
      · (intro w hSw; go_simp; try with_reducible rfl)
      try simp only [Act.put, List.getElem_toArray, List.getElem_cons_succ, List.getElem_cons_zero, List.setIfInBounds_toArray, List.set_cons_zero, List.set_cons_succ]
      refine wpAnyH_take (i := 10) (v := ?_) rfl (by kernel_rfl) (by kernel_rfl) (by kernel_rfl) (fun _ _ _ h => h) (Or.inl ⟨by kernel_rfl, ?_⟩) (by assumption) ?_
      rotate_left
      · (intro w hSw; go_simp; try with_reducible rfl)
      try simp only [Act.put, List.getElem_toArray, List.getElem_cons_succ, List.getElem_cons_zero, List.setIfInBounds_toArray, List.set_cons_zero, List.set_cons_succ]
      refine wpAnyH_take (i := 11) (v := ?_) rfl (by kernel_rfl) (by kernel_rfl) (by kernel_rfl) (fun _ _ _ h => h) (Or.inl ⟨by kernel_rfl, ?_⟩) (by assumption) ?_
      rotate_left
      · (intro w hSw; go_simp; try with_reducible rfl)
      try simp only [Act.put, List.getElem_toArray, List.getElem_cons_succ, List.getElem_cons_zero, List.setIfInBounds_toArray, List.set_cons_zero, List.set_cons_succ]
      refine wpAnyH_done (by kernel_rfl) ?_ _
      refine NoPanic.normal ?_
      go_wp2
      refine bodyPost_ret (res_drLG _ rfl rfl rfl rfl rfl (D.out.fin h s n).1) rfl ?_
      exact ⟨h, s, n, 1 + x, now, 1 + y, d, h0, h1, s0, s1, n0, n1, by omega, by omega, t0, t1, by omega, by omega, d0, d1, rfl, (D.out.fin h s n).2.1⟩
  · have hhb : decide (0 < h) = false := by simpa using hh
    go_wp2_with fail
    have D := Lib.hid D.out.drew
    refine wp_region_noPanic ?_
    refine wp_region_held_drew (S := fun w' => (∃ p' a' v', AF3 w' w.heap.size p' a' v') ∧ AF3 w' w2.heap.size h s n) (by kernel_rfl) D.out.S (fun hH0 => ?_)
    refine wpAnyH_take (i := 1) (v := ?_) rfl (by kernel_rfl) (by kernel_rfl) (by kernel_rfl) (fun _ _ _ h => h) (Or.inl ⟨by kernel_rfl, ?_⟩) (by assumption) ?_
    rotate_left
    · (intro w hSw; go_simp; try with_reducible rfl)
    try simp only [Act.put, List.getElem_toArray, List.getElem_cons_succ, List.getElem_cons_zero, List.setIfInBounds_toArray, List.set_cons_zero, List.set_cons_succ]
    refine wpAnyH_take (i := 2) (v := ?_) rfl (by kernel_rfl) (by kernel_rfl) (by kernel_rfl) (fun _ _ _ h => h) (Or.inl ⟨by kernel_rfl, ?_⟩) (by assumption) ?_
    rotate_left
    · (intro w hSw; go_simp; try with_reducible rfl)
    try simp only [Act.put, List.getElem_toArray, List.getElem_cons_succ, List.getElem_cons_zero, List.setIfInBounds_toArray, List.set_cons_zero, List.set_cons_succ]
    refine wpAnyH_take (i := 3) (v := ?_) rfl (by kernel_rfl) (by kernel_rfl) (by kernel_rfl) (fun _ _ _ h => h) (Or.inl ⟨by kernel_rfl, ?_⟩) (by assumption) ?_
    rotate_left
    · (intro w hSw; go_simp; try with_reducible rfl)
    try simp only [Act.put, List.getElem_toArray, List.getElem_cons_succ, List.getElem_cons_zero, List.setIfInBounds_toArray, List.set_cons_zero, List.set_cons_succ]
    refine wpAnyH_take (i := 0) (v := ?_) rfl (by kernel_rfl) (by kernel_rfl) (by kernel_rfl) (fun _ _ _ h => h) (Or.inl ⟨by kernel_rfl, ?_⟩) (by assumption) ?_
    rotate_left
    · (intro w hSw; obtain ⟨u0, u1, u2⟩ := cells3 hSw.2.ab; go_simp; try with_reducible rfl)
    try simp only [Act.put, List.getElem_toArray, List.getElem_cons_zero, List.setIfInBounds_toArray, List.set_cons_zero, List.set_cons_succ]
    refine wpAnyH_take (i := 6) (v := ?_) rfl (by kernel_rfl) (by kernel_rfl) (by kernel_rfl) (fun _ _ _ h => h) (Or.inl ⟨by kernel_rfl, ?_⟩) (by assumption) ?_
    rotate_left
    · (intro w hSw; go_simp; try with_reducible rfl)
    try simp only [Act.put, List.getElem_toArray, List.getElem_cons_succ, List.getElem_cons_zero, List.setIfInBounds_toArray, List.set_cons_zero, List.set_cons_succ]
    refine wpAnyH_ready (rs := [4]) (by kernel_rfl) (by simp) ?_
    refine AllReadyH.cons rfl (fun K hK => ?_) AllReadyH.nil
    go_simp
    refine (pickX _ _ 30 _ D.out.2.2.2.1 (by omega) (by omega) (by omega)).mono ?_
    rintro e w3 ⟨y, y0, y1, rfl, hr, hg⟩
    have D := Lib.hid (D.out.next hr hg)
    clear hr hg
    have hy : IntKind.i64.wrap (1 + y) = 1 + y := IntWalk.i64_in _ (by omega)
    refine hK.out _ _ ?_ (fun hH => ?_)
    · exact D.out.S
    clear hK K
    try simp only [Act.put, List.getElem_toArray, List.getElem_cons_succ, List.getElem_cons_zero, List.setIfInBounds_toArray, List.set_cons_zero, List.set_cons_succ]
    refine wpAnyH_take (i := 5) (v := ?_) rfl (by kernel_rfl) (by kernel_rfl) (by kernel_rfl) (fun _ _ _ h => h) (Or.inl ⟨by kernel_rfl, ?_⟩) (by assumption) ?_
    rotate_left
    · (intro w hSw; go_simp; try with_reducible rfl)
    try simp only [Act.put, List.getElem_toArray, List.getElem_cons_succ, List.getElem_cons_zero, List.setIfInBounds_toArray, List.set_cons_zero, List.set_cons_succ]
    refine wpAnyH_ready (rs := [7]) (by kernel_rfl) (by simp) ?_
    refine AllReadyH.cons rfl (fun K hK => ?_) AllReadyH.nil
    obtain ⟨p1, a1, v1, hz⟩ := D.out.2.1
    obtain ⟨k0, k1, k2⟩ := cells3 hz.ab
    have f0 := hz.fz 0
    have f1 := hz.fz 1
    have f2 := hz.fz 2
    go_simp
    refine hK.out _ _ ?_ (fun hH => ?_)
    · exact ⟨⟨h, s, n, (D.out.fin h s n).1⟩, (D.out.fin h s n).2.2⟩
    clear hK K
    try simp only [Act.put, List.getElem_toArray, List.getElem_cons_succ, List.getElem_cons_zero, List.setIfInBounds_toArray, List.set_cons_zero, List.set_cons_succ]
    refine wpAnyH_take (i := 8) (v := ?_) rfl (by kernel_rfl) (by kernel_rfl) (by kernel_rfl) (fun _ _ _ h => h) (Or.inl ⟨by kernel_rfl, ?_⟩) (by assumption) ?_
    rotate_left
    · (intro w hSw; go_simp; try with_reducible rfl)
    try simp only [Act.put, List.getElem_toArray, List.getElem_cons_succ, List.getElem_cons_zero, List.setIfInBounds_toArray, List.set_cons_zero, List.set_cons_succ]
    refine wpAnyH_take (i := 9) (v := ?_) rfl (by kernel_rfl) (by kernel_rfl) (by kernel_rfl) (fun _ _ _ h => h) (Or.inl ⟨by kernel_rfl, ?_⟩) (by assumption) ?_
    rotate_left
    · (intro w hSw; go_simp; try with_reducible rfl)
    try simp only [Act.put, List.getElem_toArray, List.getElem_cons_succ, List.getElem_cons_zero, List.setIfInBounds_toArray, List.set_cons_zero, List.set_cons_succ]
    refine wpAnyH_take (i := 10) (v := ?_) rfl (by kernel_rfl) (by kernel_rfl) (by kernel_rfl) (fun _ _ _ h => h) (Or.inl ⟨by kernel_rfl, ?_⟩) (by assumption) ?_
    rotate_left
    · (intro w hSw; go_simp; try with_reducible rfl)
    try simp only [Act.put, List.getElem_toArray, List.getElem_cons_succ, List.getElem_cons_zero, List.setIfInBounds_toArray, List.set_cons_zero, List.set_cons_succ]
    refine wpAnyH_take (i := 11) (v := ?_) rfl (by kernel_rfl) (by kernel_rfl) (by kernel_rfl) (fun _ _ _ h => h) (Or.inl ⟨by kernel_rfl, ?_⟩) (by assumption) ?_
    rotate_left
    · (intro w hSw; go_simp; try with_reducible rfl)
    try simp only [Act.put, List.getElem_toArray, List.getElem_cons_succ, List.getElem_cons_zero, List.setIfInBounds_toArray, List.set_cons_zero, List.set_cons_succ]
    refine wpAnyH_done (by kernel_rfl) ?_ _
    refine NoPanic.normal ?_
    go_wp2
    refine bodyPost_ret (res_drLG _ rfl rfl rfl rfl rfl (D.out.fin h s n).1) rfl ?_
    exact ⟨h, s, n, 1 + x, now, 1 + y, d, h0, h1, s0, s1, n0, n1, by omega, by omega, t0, t1, by omega, by omega, d0, d1, rfl, (D.out.fin h s n).2.1⟩
end Go.Proofs.Ytfagjbbljdgefaa
