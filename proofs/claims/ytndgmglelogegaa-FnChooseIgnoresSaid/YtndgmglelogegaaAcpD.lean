/- Acceptors drawn, by their contracts. -/
import Derived.Test.YtndgmglelogegaaAcpV
import Derived.Test.YtndgmglelogegaaDraw2
namespace Go.Proofs.Ytndgmglelogegaa
open Go.RowKit

/-- While a state is drawn: the reader, the place for the result, the state so far. -/
def D3 (w : World) (g B q : Nat) (x a v : Int) (wr : World) : Prop :=
  g < w.heap.size ∧ w.heap.size < B ∧ AF3 wr w.heap.size 0 0 0 ∧ AF3 wr B x a v ∧ RdX wr g q ∧ w.grownBy wr (some g)
theorem grown_set {w wr : World} {g b off : Nat} (h : w.grownBy wr (some g)) (hb : w.heap.size ≤ b) (u : Value) : w.grownBy (wr.setCell ⟨b, off, none⟩ u) (some g) :=
  ⟨h.os, h.tape, h.output, by simpa [World.setCell] using h.size, fun i hi hne => (Below.heap_setCell wr ⟨b, off, none⟩ u i (by simp; omega)).trans (h.block i hi hne)⟩
theorem RdX.set {wr : World} {g q b off : Nat} (h : RdX wr g q) (hb : g < b) (u : Value) : RdX (wr.setCell ⟨b, off, none⟩ u) g q :=
  h.grown (row := some b) ⟨rfl, rfl, rfl, by simp [World.setCell], fun i hi hne => Below.heap_setCell wr ⟨b, off, none⟩ u i (by simp at hne; simpa using hne)⟩ (fun k hk => by injection hk with hk; omega)
section
variable {w wr wr' : World} {g B q : Nat} {x a v : Int}
theorem AF3.grown (h : AF3 wr B x a v) (hg : wr.grownBy wr' (some g)) (hne : g ≠ B) : AF3 wr' B x a v := h.kept (hg.block B h.lt (by simp; omega))
theorem D3.pick (h : D3 w g B q x a v wr) {q' : Nat} (hr : RdX wr' g q') (hg : wr.grownBy wr' (some g)) : D3 w g B q' x a v wr' := by
  obtain ⟨h1, h2, h3, h4, h5, h6⟩ := h
  exact ⟨h1, h2, h3.grown hg (by omega), h4.grown hg (by omega), hr, grown_trans h6 hg⟩
theorem D3.set1 (h : D3 w g B q x a v wr) (y : Int) : D3 w g B q x y v (wr.setCell ⟨B, 1, none⟩ (.int .i64 y)) := by
  obtain ⟨h1, h2, h3, h4, h5, h6⟩ := h
  exact ⟨h1, h2, h3.kept (Below.heap_setCell wr ⟨B, 1, none⟩ _ _ (by simp; omega)), h4.set1 y, h5.set (by omega) _, grown_set h6 (by omega) _⟩
theorem D3.set2 (h : D3 w g B q x a v wr) (y : Int) : D3 w g B q x a y (wr.setCell ⟨B, 2, none⟩ (.int .i64 y)) := by
  obtain ⟨h1, h2, h3, h4, h5, h6⟩ := h
  exact ⟨h1, h2, h3.kept (Below.heap_setCell wr ⟨B, 2, none⟩ _ _ (by simp; omega)), h4.set2 y, h5.set (by omega) _, grown_set h6 (by omega) _⟩
theorem D3.fin (h : D3 w g B q x a v wr) : AF3 (set3 wr w.heap.size x a v) w.heap.size x a v ∧ RdX (set3 wr w.heap.size x a v) g q ∧ w.grownBy (set3 wr w.heap.size x a v) (some g) := by
  obtain ⟨h1, h2, h3, h4, h5, h6⟩ := h
  exact ⟨h3.set3 x a v, ((h5.set h1 _).set h1 _).set h1 _, grown_set (grown_set (grown_set h6 (Nat.le_refl _) _) (Nat.le_refl _) _) (Nat.le_refl _) _⟩
theorem D3.cs (h : D3 w g B q x a v wr) : wr.cell? ⟨B, 0, none⟩ = some (.int .i64 x) ∧ wr.cell? ⟨B, 1, none⟩ = some (.int .i64 a) ∧ wr.cell? ⟨B, 2, none⟩ = some (.int .i64 v) := cells3 h.2.2.2.1.ab
theorem D3.cz (h : D3 w g B q x a v wr) : wr.cell? ⟨w.heap.size, 0, none⟩ = some (.int .i64 0) ∧ wr.cell? ⟨w.heap.size, 1, none⟩ = some (.int .i64 0) ∧ wr.cell? ⟨w.heap.size, 2, none⟩ = some (.int .i64 0) := cells3 h.2.2.1.ab
end
/-- What the draw of a state hands back. -/
def Drawn3 (w : World) (g p : Nat) (e : Ending) (w' : World) : Prop :=
  ∃ (P a v : Int) (q : Nat), 0 ≤ P ∧ P ≤ 7 ∧ 0 ≤ a ∧ a ≤ 21 ∧ 0 ≤ v ∧ v ≤ 9 ∧ e = .returned (AVal P a v) ∧ RdX w' g q ∧ q ≤ p + 6 ∧ w.grownBy w' (some g)
theorem D3.start {w w1 : World} {g p : Nat} (h : RdX w g p) (hr : RdX w1 g (p + 1)) (hg : (w.alloc (.cells #[.int .i64 0, .int .i64 0, .int .i64 0] 24)).grownBy w1 (some g)) (x : Int) :
    D3 w g w1.heap.size (p + 1) x 0 0 (w1.alloc (.cells #[.int .i64 x, .int .i64 0, .int .i64 0] 24)) := by
  have hlt := h.lt
  have hs := hg.size
  rw [World.size_alloc] at hs
  have hbm : Below w1.heap.size w1 (w1.alloc (.cells #[.int .i64 x, .int .i64 0, .int .i64 0] 24)) := (Below.refl _ w1).alloc (Nat.le_refl _) _
  refine ⟨hlt, by omega, ?_, AF3.new _ _ _ _ _, hr.below hbm, grown_below (grown_trans (World.grownBy_alloc w _ (some g)) hg) hbm⟩
  exact ((AF3.new w 0 0 0 _).grown hg (by omega)).below hbm
theorem results_one {fn : Func} {p : Tmp} {ty : TypeId} (h : fn.results = #[.cell p ty]) (tmps : Array Value) (P : Program) (w : World) :
    (results fn tmps).run P w = ((asAddr (tmps.getD p undef)).run P w).andThen fun a w₁ => (loadVar ty a).run P w₁ := by
  simp only [results, h]
  simp [Sem.run_bind, Result.andThen]
theorem res_l92 {W : World} {b : Nat} {p a v : Int} (tmps : Array Value) (h2 : tmps.getD 2 undef = .pointer (some ⟨b, 0, none⟩))
    (h : W.cell? ⟨b, 0, none⟩ = some (.int .i64 p) ∧ W.cell? ⟨b, 1, none⟩ = some (.int .i64 a) ∧ W.cell? ⟨b, 2, none⟩ = some (.int .i64 v)) :
    (results Try.f34 tmps).run Try.prog W = .ok (AVal p a v) W := by
  obtain ⟨q0, q1, q2⟩ := h
  rw [results_one rfl, h2]
  go_simp
  rfl

set_option maxRecDepth 100000 in
set_option maxHeartbeats 3200000 in
theorem l92Acceptor_any (g p : Nat) (w : World) (h : RdX w g p) (hp : p ≤ 900000) :
    Calls Try.prog 34 #[.pointer (some ⟨g, 0, none⟩)] w (Drawn3 w g p) := by
  have hr0 : RdX (w.alloc (.cells #[.int .i64 0, .int .i64 0, .int .i64 0] 24)) g p := h.below ((Below.refl _ w).alloc (Nat.le_refl _) _)
  have H := Lib.hid h
  clear h
  go_enter Try.func34, Try.ntmps34
  go_wp2_with fail
  refine (pickX _ _ 8 _ hr0 (by omega) (by omega) (by omega)).mono ?_
  rintro e w1 ⟨x, x0, x1, rfl, hr1, g1⟩
  have D := Lib.hid (D3.start H.out hr1 g1 x)
  clear H hr0 hr1 g1
  by_cases hx : 0 < x
  · go_wp2_with fail
    refine (pickX _ _ 2 _ D.out.2.2.2.2.1 (by omega) (by omega) (by omega)).mono ?_
    rintro e w3 ⟨y, y0, y1, rfl, hr, hg⟩
    have D := Lib.hid (D.out.pick hr hg)
    clear hr hg
    obtain ⟨c0, c1, c2⟩ := D.out.cs
    obtain ⟨d0, d1, d2⟩ := D.out.cz
    have z0 := D.out.2.2.1.fz 0
    have z1 := D.out.2.2.1.fz 1
    have z2 := D.out.2.2.1.fz 2
    have y1 := D.out.2.2.2.1.fz 1
    have y2 := D.out.2.2.2.1.fz 2
    by_cases hy : y = 0
    · have ye : (y == 0) = true := by simpa using hy
      go_wp2_with fail
      refine (pickX _ _ x _ D.out.2.2.2.2.1 (by omega) (by omega) (by omega)).mono ?_
      rintro e w4 ⟨u, u0, u1, rfl, hr, hg⟩
      have D := Lib.hid (D.out.pick hr hg)
      clear hr hg
      obtain ⟨c0, c1, c2⟩ := D.out.cs
      obtain ⟨d0, d1, d2⟩ := D.out.cz
      have z0 := D.out.2.2.1.fz 0
      have z1 := D.out.2.2.1.fz 1
      have z2 := D.out.2.2.1.fz 2
      have y1 := D.out.2.2.2.1.fz 1
      have y2 := D.out.2.2.2.1.fz 2
      have D := Lib.hid (D.out.set1 (1 + u))
      go_wp2_with fail
      refine (pickX _ _ 9 _ D.out.2.2.2.2.1 (by omega) (by omega) (by omega)).mono ?_
      rintro e w5 ⟨t, t0, t1, rfl, hr, hg⟩
      have D := Lib.hid (D.out.pick hr hg)
      clear hr hg
      obtain ⟨c0, c1, c2⟩ := D.out.cs
      obtain ⟨d0, d1, d2⟩ := D.out.cz
      have z0 := D.out.2.2.1.fz 0
      have z1 := D.out.2.2.1.fz 1
      have z2 := D.out.2.2.1.fz 2
      have y1 := D.out.2.2.2.1.fz 1
      have y2 := D.out.2.2.2.1.fz 2
      have D := Lib.hid (D.out.set2 (1 + t))
      go_wp2_with fail
      refine (pickX _ _ 40 _ D.out.2.2.2.2.1 (by omega) (by omega) (by omega)).mono ?_
      rintro e w7 ⟨k, k0, k1, rfl, hr, hg⟩
      have D := Lib.hid (D.out.pick hr hg)
      clear hr hg
      obtain ⟨c0, c1, c2⟩ := D.out.cs
      obtain ⟨d0, d1, d2⟩ := D.out.cz
      have z0 := D.out.2.2.1.fz 0
      have z1 := D.out.2.2.1.fz 1
      have z2 := D.out.2.2.1.fz 2
      have y1 := D.out.2.2.2.1.fz 1
      have y2 := D.out.2.2.2.1.fz 2
      by_cases hk0 : k = 0
      · have k0e : (k == 0) = true := by simpa using hk0
        have k1e : (k == 1) = false := by simp; omega
        clear hk0
        go_wp2_with fail
        refine (pickX _ _ 3 _ D.out.2.2.2.2.1 (by omega) (by omega) (by omega)).mono ?_
        rintro e w8 ⟨m, m0, m1, rfl, hr, hg⟩
        have D := Lib.hid (D.out.pick hr hg)
        clear hr hg
        obtain ⟨c0, c1, c2⟩ := D.out.cs
        obtain ⟨d0, d1, d2⟩ := D.out.cz
        have z0 := D.out.2.2.1.fz 0
        have z1 := D.out.2.2.1.fz 1
        have z2 := D.out.2.2.1.fz 2
        have y1 := D.out.2.2.2.1.fz 1
        have y2 := D.out.2.2.2.1.fz 2
        have F := Lib.hid (D.out.set2 m)
        obtain ⟨s0, s1, s2⟩ := F.out.cs
        have n1 := Nat.ne_of_lt D.out.2.1
        have n2 := Nat.ne_of_gt D.out.2.1
        have v0 := F.out.2.2.1.fz 0
        have v1 := F.out.2.2.1.fz 1
        have v2 := F.out.2.2.1.fz 2
        have G := Lib.hid F.out.fin
        go_wp2
        refine bodyPost_ret (res_l92 _ rfl (cells3 G.out.1.ab)) rfl ?_
        exact ⟨x, (1 + u), m, _, x0, by omega, by omega, by omega, by omega, by omega, rfl, G.out.2.1, by omega, G.out.2.2⟩
      · by_cases hk1 : k = 1
        · have k0e : (k == 0) = false := by simpa using hk0
          have k1e : (k == 1) = true := by simpa using hk1
          clear hk0 hk1
          go_wp2_with fail
          refine (pickX _ _ 22 _ D.out.2.2.2.2.1 (by omega) (by omega) (by omega)).mono ?_
          rintro e w8 ⟨m, m0, m1, rfl, hr, hg⟩
          have D := Lib.hid (D.out.pick hr hg)
          clear hr hg
          obtain ⟨c0, c1, c2⟩ := D.out.cs
          obtain ⟨d0, d1, d2⟩ := D.out.cz
          have z0 := D.out.2.2.1.fz 0
          have z1 := D.out.2.2.1.fz 1
          have z2 := D.out.2.2.1.fz 2
          have y1 := D.out.2.2.2.1.fz 1
          have y2 := D.out.2.2.2.1.fz 2
          have F := Lib.hid (D.out.set1 m)
          obtain ⟨s0, s1, s2⟩ := F.out.cs
          have n1 := Nat.ne_of_lt D.out.2.1
          have n2 := Nat.ne_of_gt D.out.2.1
          have v0 := F.out.2.2.1.fz 0
          have v1 := F.out.2.2.1.fz 1
          have v2 := F.out.2.2.1.fz 2
          have G := Lib.hid F.out.fin
          go_wp2
          refine bodyPost_ret (res_l92 _ rfl (cells3 G.out.1.ab)) rfl ?_
          exact ⟨x, m, (1 + t), _, x0, by omega, by omega, by omega, by omega, by omega, rfl, G.out.2.1, by omega, G.out.2.2⟩
        · have k0e : (k == 0) = false := by simpa using hk0
          have k1e : (k == 1) = false := by simpa using hk1
          clear hk0 hk1
          have G := Lib.hid D.out.fin
          go_wp2
          refine bodyPost_ret (res_l92 _ rfl (cells3 G.out.1.ab)) rfl ?_
          exact ⟨x, (1 + u), (1 + t), _, x0, by omega, by omega, by omega, by omega, by omega, rfl, G.out.2.1, by omega, G.out.2.2⟩
    · have ye : (y == 0) = false := by simpa using hy
      clear hy
      go_wp2_with fail
      refine (pickX _ _ 40 _ D.out.2.2.2.2.1 (by omega) (by omega) (by omega)).mono ?_
      rintro e w7 ⟨k, k0, k1, rfl, hr, hg⟩
      have D := Lib.hid (D.out.pick hr hg)
      clear hr hg
      obtain ⟨c0, c1, c2⟩ := D.out.cs
      obtain ⟨d0, d1, d2⟩ := D.out.cz
      have z0 := D.out.2.2.1.fz 0
      have z1 := D.out.2.2.1.fz 1
      have z2 := D.out.2.2.1.fz 2
      have y1 := D.out.2.2.2.1.fz 1
      have y2 := D.out.2.2.2.1.fz 2
      by_cases hk0 : k = 0
      · have k0e : (k == 0) = true := by simpa using hk0
        have k1e : (k == 1) = false := by simp; omega
        clear hk0
        go_wp2_with fail
        refine (pickX _ _ 3 _ D.out.2.2.2.2.1 (by omega) (by omega) (by omega)).mono ?_
        rintro e w8 ⟨m, m0, m1, rfl, hr, hg⟩
        have D := Lib.hid (D.out.pick hr hg)
        clear hr hg
        obtain ⟨c0, c1, c2⟩ := D.out.cs
        obtain ⟨d0, d1, d2⟩ := D.out.cz
        have z0 := D.out.2.2.1.fz 0
        have z1 := D.out.2.2.1.fz 1
        have z2 := D.out.2.2.1.fz 2
        have y1 := D.out.2.2.2.1.fz 1
        have y2 := D.out.2.2.2.1.fz 2
        have F := Lib.hid (D.out.set2 m)
        obtain ⟨s0, s1, s2⟩ := F.out.cs
        have n1 := Nat.ne_of_lt D.out.2.1
        have n2 := Nat.ne_of_gt D.out.2.1
        have v0 := F.out.2.2.1.fz 0
        have v1 := F.out.2.2.1.fz 1
        have v2 := F.out.2.2.1.fz 2
        have G := Lib.hid F.out.fin
        go_wp2
        refine bodyPost_ret (res_l92 _ rfl (cells3 G.out.1.ab)) rfl ?_
        exact ⟨x, 0, m, _, x0, by omega, by omega, by omega, by omega, by omega, rfl, G.out.2.1, by omega, G.out.2.2⟩
      · by_cases hk1 : k = 1
        · have k0e : (k == 0) = false := by simpa using hk0
          have k1e : (k == 1) = true := by simpa using hk1
          clear hk0 hk1
          go_wp2_with fail
          refine (pickX _ _ 22 _ D.out.2.2.2.2.1 (by omega) (by omega) (by omega)).mono ?_
          rintro e w8 ⟨m, m0, m1, rfl, hr, hg⟩
          have D := Lib.hid (D.out.pick hr hg)
          clear hr hg
          obtain ⟨c0, c1, c2⟩ := D.out.cs
          obtain ⟨d0, d1, d2⟩ := D.out.cz
          have z0 := D.out.2.2.1.fz 0
          have z1 := D.out.2.2.1.fz 1
          have z2 := D.out.2.2.1.fz 2
          have y1 := D.out.2.2.2.1.fz 1
          have y2 := D.out.2.2.2.1.fz 2
          have F := Lib.hid (D.out.set1 m)
          obtain ⟨s0, s1, s2⟩ := F.out.cs
          have n1 := Nat.ne_of_lt D.out.2.1
          have n2 := Nat.ne_of_gt D.out.2.1
          have v0 := F.out.2.2.1.fz 0
          have v1 := F.out.2.2.1.fz 1
          have v2 := F.out.2.2.1.fz 2
          have G := Lib.hid F.out.fin
          go_wp2
          refine bodyPost_ret (res_l92 _ rfl (cells3 G.out.1.ab)) rfl ?_
          exact ⟨x, m, 0, _, x0, by omega, by omega, by omega, by omega, by omega, rfl, G.out.2.1, by omega, G.out.2.2⟩
        · have k0e : (k == 0) = false := by simpa using hk0
          have k1e : (k == 1) = false := by simpa using hk1
          clear hk0 hk1
          have G := Lib.hid D.out.fin
          go_wp2
          refine bodyPost_ret (res_l92 _ rfl (cells3 G.out.1.ab)) rfl ?_
          exact ⟨x, 0, 0, _, x0, by omega, by omega, by omega, by omega, by omega, rfl, G.out.2.1, by omega, G.out.2.2⟩
  · have hx0 : decide (0 < x) = false := by simpa using hx
    obtain ⟨c0, c1, c2⟩ := D.out.cs
    go_wp2_with fail
    refine (pickX _ _ 40 _ D.out.2.2.2.2.1 (by omega) (by omega) (by omega)).mono ?_
    rintro e w7 ⟨k, k0, k1, rfl, hr, hg⟩
    have D := Lib.hid (D.out.pick hr hg)
    clear hr hg
    obtain ⟨c0, c1, c2⟩ := D.out.cs
    obtain ⟨d0, d1, d2⟩ := D.out.cz
    have z0 := D.out.2.2.1.fz 0
    have z1 := D.out.2.2.1.fz 1
    have z2 := D.out.2.2.1.fz 2
    have y1 := D.out.2.2.2.1.fz 1
    have y2 := D.out.2.2.2.1.fz 2
    by_cases hk0 : k = 0
    · have k0e : (k == 0) = true := by simpa using hk0
      have k1e : (k == 1) = false := by simp; omega
      clear hk0
      go_wp2_with fail
      refine (pickX _ _ 3 _ D.out.2.2.2.2.1 (by omega) (by omega) (by omega)).mono ?_
      rintro e w8 ⟨m, m0, m1, rfl, hr, hg⟩
      have D := Lib.hid (D.out.pick hr hg)
      clear hr hg
      obtain ⟨c0, c1, c2⟩ := D.out.cs
      obtain ⟨d0, d1, d2⟩ := D.out.cz
      have z0 := D.out.2.2.1.fz 0
      have z1 := D.out.2.2.1.fz 1
      have z2 := D.out.2.2.1.fz 2
      have y1 := D.out.2.2.2.1.fz 1
      have y2 := D.out.2.2.2.1.fz 2
      have F := Lib.hid (D.out.set2 m)
      obtain ⟨s0, s1, s2⟩ := F.out.cs
      have n1 := Nat.ne_of_lt D.out.2.1
      have n2 := Nat.ne_of_gt D.out.2.1
      have v0 := F.out.2.2.1.fz 0
      have v1 := F.out.2.2.1.fz 1
      have v2 := F.out.2.2.1.fz 2
      have G := Lib.hid F.out.fin
      go_wp2
      refine bodyPost_ret (res_l92 _ rfl (cells3 G.out.1.ab)) rfl ?_
      exact ⟨x, 0, m, _, x0, by omega, by omega, by omega, by omega, by omega, rfl, G.out.2.1, by omega, G.out.2.2⟩
    · by_cases hk1 : k = 1
      · have k0e : (k == 0) = false := by simpa using hk0
        have k1e : (k == 1) = true := by simpa using hk1
        clear hk0 hk1
        go_wp2_with fail
        refine (pickX _ _ 22 _ D.out.2.2.2.2.1 (by omega) (by omega) (by omega)).mono ?_
        rintro e w8 ⟨m, m0, m1, rfl, hr, hg⟩
        have D := Lib.hid (D.out.pick hr hg)
        clear hr hg
        obtain ⟨c0, c1, c2⟩ := D.out.cs
        obtain ⟨d0, d1, d2⟩ := D.out.cz
        have z0 := D.out.2.2.1.fz 0
        have z1 := D.out.2.2.1.fz 1
        have z2 := D.out.2.2.1.fz 2
        have y1 := D.out.2.2.2.1.fz 1
        have y2 := D.out.2.2.2.1.fz 2
        have F := Lib.hid (D.out.set1 m)
        obtain ⟨s0, s1, s2⟩ := F.out.cs
        have n1 := Nat.ne_of_lt D.out.2.1
        have n2 := Nat.ne_of_gt D.out.2.1
        have v0 := F.out.2.2.1.fz 0
        have v1 := F.out.2.2.1.fz 1
        have v2 := F.out.2.2.1.fz 2
        have G := Lib.hid F.out.fin
        go_wp2
        refine bodyPost_ret (res_l92 _ rfl (cells3 G.out.1.ab)) rfl ?_
        exact ⟨x, m, 0, _, x0, by omega, by omega, by omega, by omega, by omega, rfl, G.out.2.1, by omega, G.out.2.2⟩
      · have k0e : (k == 0) = false := by simpa using hk0
        have k1e : (k == 1) = false := by simpa using hk1
        clear hk0 hk1
        have G := Lib.hid D.out.fin
        go_wp2
        refine bodyPost_ret (res_l92 _ rfl (cells3 G.out.1.ab)) rfl ?_
        exact ⟨x, 0, 0, _, x0, by omega, by omega, by omega, by omega, by omega, rfl, G.out.2.1, by omega, G.out.2.2⟩
end Go.Proofs.Ytndgmglelogegaa
