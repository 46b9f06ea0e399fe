/- Acceptors drawn with a ballot or with a value, by their contracts. -/
import Derived.Test.YtndgmglelogegaaAcpD
namespace Go.Proofs.Ytndgmglelogegaa
open Go.RowKit

/-- While a state is drawn with more: the reader, the place for the result. -/
def E3 (w : World) (g q : Nat) (wr : World) : Prop := w.heap.size < g ∧ AF3 wr w.heap.size 0 0 0 ∧ RdX wr g q ∧ Below w.heap.size w wr
theorem E3.start {w w1 : World} (hr : RdX w1 (w.heap.size + 1) 0) (b1 : Below (w.alloc (.cells #[.int .i64 0, .int .i64 0, .int .i64 0] 24)).heap.size (w.alloc (.cells #[.int .i64 0, .int .i64 0, .int .i64 0] 24)) w1) : E3 w (w.heap.size + 1) 0 w1 :=
  ⟨by omega, (AF3.new w 0 0 0 _).below b1, hr, ((Below.refl _ w).alloc (Nat.le_refl _) _).trans (b1.mono (by simp))⟩
theorem E3.next {w wr wr' : World} {g q q' : Nat} (h : E3 w g q wr) (hr : RdX wr' g q') (hg : wr.grownBy wr' (some g)) : E3 w g q' wr' :=
  ⟨h.1, h.2.1.grown hg (by have := h.1; omega), hr, h.2.2.2.grown hg h.2.2.2.size (fun k hk => by injection hk with hk; have := h.1; omega)⟩
theorem E3.fin {w wr : World} {g q : Nat} (h : E3 w g q wr) (p a v : Int) : AF3 (set3 wr w.heap.size p a v) w.heap.size p a v ∧ Below w.heap.size w (set3 wr w.heap.size p a v) :=
  ⟨h.2.1.set3 p a v, set3_below h.2.2.2 (Nat.le_refl _) p a v⟩
/-- A drawn state and a ballot; and a value. -/
def DrewP (w : World) (e : Ending) (w' : World) : Prop := ∃ P a v b : Int, 0 ≤ b ∧ b ≤ 21 ∧ e = .returned (.tuple #[AVal P a v, .int .i64 b]) ∧ Below w.heap.size w w'
def DrewV (w : World) (e : Ending) (w' : World) : Prop := ∃ P a v : Int, e = .returned (AVal P a v) ∧ Below w.heap.size w w'
theorem quo_small {y : Int} (h0 : 0 ≤ y) (h1 : y < 24) : 0 ≤ y / 23 ∧ y / 23 ≤ 1 := by omega
theorem res_drP {W : World} {b : Nat} {p a v : Int} {y : Value} (tmps : Array Value) (h2 : tmps.getD 2 undef = .pointer (some ⟨b, 0, none⟩)) (h3 : tmps.getD 3 undef = y)
    (h : W.cell? ⟨b, 0, none⟩ = some (.int .i64 p) ∧ W.cell? ⟨b, 1, none⟩ = some (.int .i64 a) ∧ W.cell? ⟨b, 2, none⟩ = some (.int .i64 v)) :
    (results Try.f16 tmps).run Try.prog W = .ok (.tuple #[AVal p a v, y]) W := by
  obtain ⟨q0, q1, q2⟩ := h
  rw [results_cell_tmp rfl, h2, h3]
  go_simp
  rfl

set_option maxRecDepth 100000 in
set_option maxHeartbeats 1600000 in
theorem drawAP_any (A : Option Addr) (c : Nat) (l : List Int) (w : World) (ha : BL w A l) (hc : l.length ≤ c) (hm : l.length ≤ maxLen) (hmc : c ≤ maxLen) :
    Calls Try.prog 16 #[.slice A l.length c] w (DrewP w) := by
  have hA := Lib.hid (ha.below ((Below.refl _ w).alloc (Nat.le_refl _) (.cells #[.int .i64 0, .int .i64 0, .int .i64 0] 24)))
  clear ha
  go_enter Try.func16, Try.ntmps16
  go_wp2_with fail
  refine (l6Open_any _ _ _ _ hA.out hc hm hmc).mono ?_
  rintro e w1 ⟨rfl, hr1, b1⟩
  rw [World.size_alloc] at hr1
  have D := Lib.hid (E3.start hr1 b1)
  clear hr1 b1
  go_wp2_with fail
  refine (l92Acceptor_any _ _ _ D.out.2.2.1 (by omega)).mono ?_
  rintro e w2 ⟨P, a, v, q, P0, P7, a0, a7, v0, v7, rfl, hr, hq, hg⟩
  have D := Lib.hid (D.out.next hr hg)
  clear hr hg
  go_wp2_with fail
  refine (pickX _ _ 12 _ D.out.2.2.1 (by omega) (by omega) (by omega)).mono ?_
  rintro e w3 ⟨b, b0, b1, rfl, hr, hg⟩
  have D := Lib.hid (D.out.next hr hg)
  clear hr hg
  go_wp2_with fail
  refine (pickX _ _ 24 _ D.out.2.2.1 (by omega) (by omega) (by omega)).mono ?_
  rintro e w3 ⟨y, y0, y1, rfl, hr, hg⟩
  have D := Lib.hid (D.out.next hr hg)
  clear hr hg
  obtain ⟨y3, y4⟩ := quo_small y0 y1
  obtain ⟨d0, d1, d2⟩ := cells3 D.out.2.1.ab
  have z0 := D.out.2.1.fz 0
  have z1 := D.out.2.1.fz 1
  have z2 := D.out.2.1.fz 2
  have G := Lib.hid (D.out.fin P a v)
  unfold AVal
  go_wp2
  refine bodyPost_ret (res_drP _ rfl rfl (cells3 G.out.1.ab)) rfl ?_
  trace_state
  exact ⟨P, a, v, _, by omega, by omega, rfl, G.out.2⟩
end Go.Proofs.Ytndgmglelogegaa
