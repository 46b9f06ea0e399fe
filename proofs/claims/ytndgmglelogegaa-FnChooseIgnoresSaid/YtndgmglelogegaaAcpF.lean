/- Acceptors: the other draws, the laws' copies and comparisons, by their contracts. -/
import Derived.Test.YtndgmglelogegaaAcpE
import Derived.Laws.StructEq
namespace Go.Proofs.Ytndgmglelogegaa
open Go.RowKit

theorem results_cell_tmp2 {fn : Func} {p u v : Tmp} {ty : TypeId} (h : fn.results = #[.cell p ty, .tmp u, .tmp v]) (tmps : Array Value) (P : Program) (w : World) :
    (results fn tmps).run P w =
      ((asAddr (tmps.getD p undef)).run P w).andThen fun a w₁ => ((loadVar ty a).run P w₁).andThen fun x w₂ => .ok (.tuple #[x, tmps.getD u undef, tmps.getD v undef]) w₂ := by
  simp only [results, h]
  simp [Sem.run_bind, Result.andThen]
theorem res_drA {W : World} {b : Nat} {p a v : Int} {y z : Value} (tmps : Array Value) (h2 : tmps.getD 2 undef = .pointer (some ⟨b, 0, none⟩)) (h3 : tmps.getD 3 undef = y) (h4 : tmps.getD 4 undef = z)
    (h : W.cell? ⟨b, 0, none⟩ = some (.int .i64 p) ∧ W.cell? ⟨b, 1, none⟩ = some (.int .i64 a) ∧ W.cell? ⟨b, 2, none⟩ = some (.int .i64 v)) :
    (results Try.f21 tmps).run Try.prog W = .ok (.tuple #[AVal p a v, y, z]) W := by
  obtain ⟨q0, q1, q2⟩ := h
  rw [results_cell_tmp2 rfl, h2, h3, h4]
  go_simp
  rfl
theorem res_drV {W : World} {b : Nat} {p a v : Int} (tmps : Array Value) (h2 : tmps.getD 2 undef = .pointer (some ⟨b, 0, none⟩))
    (h : W.cell? ⟨b, 0, none⟩ = some (.int .i64 p) ∧ W.cell? ⟨b, 1, none⟩ = some (.int .i64 a) ∧ W.cell? ⟨b, 2, none⟩ = some (.int .i64 v)) :
    (results Try.f27 tmps).run Try.prog W = .ok (AVal p a v) W := by
  obtain ⟨q0, q1, q2⟩ := h
  rw [results_one rfl, h2]
  go_simp
  rfl
theorem res_toA {W : World} {b : Nat} {p a v : Int} (tmps : Array Value) (h2 : tmps.getD 2 undef = .pointer (some ⟨b, 0, none⟩))
    (h : W.cell? ⟨b, 0, none⟩ = some (.int .i64 p) ∧ W.cell? ⟨b, 1, none⟩ = some (.int .i64 a) ∧ W.cell? ⟨b, 2, none⟩ = some (.int .i64 v)) :
    (results Try.f28 tmps).run Try.prog W = .ok (AVal p a v) W := by
  obtain ⟨q0, q1, q2⟩ := h
  rw [results_one rfl, h2]
  go_simp
  rfl

def DrewPV (w : World) (e : Ending) (w' : World) : Prop := ∃ P a v b c : Int, 0 ≤ b ∧ b ≤ 21 ∧ 1 ≤ c ∧ c ≤ 108 ∧ e = .returned (.tuple #[AVal P a v, .int .i64 b, .int .i64 c]) ∧ Below w.heap.size w w'
set_option maxRecDepth 100000 in
set_option maxHeartbeats 1600000 in
theorem drawAA_any (A : Option Addr) (c : Nat) (l : List Int) (w : World) (ha : BL w A l) (hc : l.length ≤ c) (hm : l.length ≤ maxLen) (hmc : c ≤ maxLen) :
    Calls Try.prog 21 #[.slice A l.length c] w (DrewPV w) := by
  have hA := Lib.hid (ha.below ((Below.refl _ w).alloc (Nat.le_refl _) (.cells #[.int .i64 0, .int .i64 0, .int .i64 0] 24)))
  clear ha
  go_enter Try.func21, Try.ntmps21
  go_wp2_with fail
  refine (l6Open_any _ _ _ _ hA.out hc hm hmc).mono ?_
  rintro e w1 ⟨rfl, hr1, b1⟩
  rw [World.size_alloc] at hr1
  have D := Lib.hid (E3.start hr1 b1)
  clear hr1 b1
  go_wp2_with fail
  refine (l92Acceptor_any _ _ _ D.out.2.2.1 (by omega)).mono ?_
  rintro e w2 ⟨P, a, v, q, P0, P7, a0, a7, v0, v7, rfl, hr, hq, hg⟩
  have D := Lib.hid (D.out.next hr hg)
  clear hr hg
  go_wp2_with fail
  refine (pickX _ _ 12 _ D.out.2.2.1 (by omega) (by omega) (by omega)).mono ?_
  rintro e w3 ⟨b, b0, b1, rfl, hr, hg⟩
  have D := Lib.hid (D.out.next hr hg)
  clear hr hg
  go_wp2_with fail
  refine (pickX _ _ 9 _ D.out.2.2.1 (by omega) (by omega) (by omega)).mono ?_
  rintro e w3 ⟨x, x0, x1, rfl, hr, hg⟩
  have D := Lib.hid (D.out.next hr hg)
  clear hr hg
  go_wp2_with fail
  refine (pickX _ _ 24 _ D.out.2.2.1 (by omega) (by omega) (by omega)).mono ?_
  rintro e w3 ⟨y, y0, y1, rfl, hr, hg⟩
  have D := Lib.hid (D.out.next hr hg)
  clear hr hg
  obtain ⟨y3, y4⟩ := quo_small y0 y1
  obtain ⟨d0, d1, d2⟩ := cells3 D.out.2.1.ab
  have z0 := D.out.2.1.fz 0
  have z1 := D.out.2.1.fz 1
  have z2 := D.out.2.1.fz 2
  have G := Lib.hid (D.out.fin P a v)
  unfold AVal
  go_wp2
  refine bodyPost_ret (res_drA _ rfl rfl rfl (cells3 G.out.1.ab)) rfl ?_
  exact ⟨P, a, v, b, 1 + x + y / 23 * 99, by omega, by omega, by omega, by omega, rfl, G.out.2⟩
set_option maxRecDepth 100000 in
set_option maxHeartbeats 1600000 in
theorem drawAV_any (A : Option Addr) (c : Nat) (l : List Int) (w : World) (ha : BL w A l) (hc : l.length ≤ c) (hm : l.length ≤ maxLen) (hmc : c ≤ maxLen) :
    Calls Try.prog 27 #[.slice A l.length c] w (DrewV w) := by
  have hA := Lib.hid (ha.below ((Below.refl _ w).alloc (Nat.le_refl _) (.cells #[.int .i64 0, .int .i64 0, .int .i64 0] 24)))
  clear ha
  go_enter Try.func27, Try.ntmps27
  go_wp2_with fail
  refine (l6Open_any _ _ _ _ hA.out hc hm hmc).mono ?_
  rintro e w1 ⟨rfl, hr1, b1⟩
  rw [World.size_alloc] at hr1
  have D := Lib.hid (E3.start hr1 b1)
  clear hr1 b1
  go_wp2_with fail
  refine (pickX _ _ 23 _ D.out.2.2.1 (by omega) (by omega) (by omega)).mono ?_
  rintro e w3 ⟨P, P0, P1, rfl, hr, hg⟩
  have D := Lib.hid (D.out.next hr hg)
  clear hr hg
  go_wp2_with fail
  refine (pickX _ _ 5 _ D.out.2.2.1 (by omega) (by omega) (by omega)).mono ?_
  rintro e w3 ⟨a, a0, a1, rfl, hr, hg⟩
  have D := Lib.hid (D.out.next hr hg)
  clear hr hg
  go_wp2_with fail
  refine (pickX _ _ 4 _ (D.out.2.2.1.below ((Below.refl _ _).alloc (Nat.le_refl _) _)) (by omega) (by omega) (by omega)).mono ?_
  rintro e w4 ⟨y, y0, y1, rfl, hr, hg⟩
  have hlt := D.out.2.2.1.lt
  have hb : w4.heap[w3.heap.size]? = some (.cells #[.int .i64 0, .int .i64 1, .int .i64 99, .int .i64 100] 3 (0, 0)) := (hg.block _ (by simp) (by simp; omega)).trans (heap_alloc_new _ _)
  have D := Lib.hid (D.out.next hr (grown_trans (World.grownBy_alloc w3 _ _) hg))
  clear hr hg hlt
  have q0 : w4.cell? ⟨w3.heap.size, 0, none⟩ = some (.int .i64 0) := by rw [cell_of_row w4 _ 0 _ _ (0, 0) hb]; rfl
  have q1 : w4.cell? ⟨w3.heap.size, 1, none⟩ = some (.int .i64 1) := by rw [cell_of_row w4 _ 1 _ _ (0, 0) hb]; rfl
  have q2 : w4.cell? ⟨w3.heap.size, 2, none⟩ = some (.int .i64 99) := by rw [cell_of_row w4 _ 2 _ _ (0, 0) hb]; rfl
  have q3 : w4.cell? ⟨w3.heap.size, 3, none⟩ = some (.int .i64 100) := by rw [cell_of_row w4 _ 3 _ _ (0, 0) hb]; rfl
  obtain ⟨d0, d1, d2⟩ := cells3 D.out.2.1.ab
  have z0 := D.out.2.1.fz 0
  have z1 := D.out.2.1.fz 1
  have z2 := D.out.2.1.fz 2
  clear hb
  have hy : y = 0 ∨ y = 1 ∨ y = 2 ∨ y = 3 := by omega
  clear y0 y1
  rcases hy with rfl | rfl | rfl | rfl
  · have G := Lib.hid (D.out.fin (P - 1) a 0)
    go_wp2
    refine bodyPost_ret (res_drV _ rfl (cells3 G.out.1.ab)) rfl ?_
    exact ⟨P - 1, a, 0, rfl, G.out.2⟩
  · have G := Lib.hid (D.out.fin (P - 1) a 1)
    go_wp2
    refine bodyPost_ret (res_drV _ rfl (cells3 G.out.1.ab)) rfl ?_
    exact ⟨P - 1, a, 1, rfl, G.out.2⟩
  · have G := Lib.hid (D.out.fin (P - 1) a 99)
    go_wp2
    refine bodyPost_ret (res_drV _ rfl (cells3 G.out.1.ab)) rfl ?_
    exact ⟨P - 1, a, 99, rfl, G.out.2⟩
  · have G := Lib.hid (D.out.fin (P - 1) a 100)
    go_wp2
    refine bodyPost_ret (res_drV _ rfl (cells3 G.out.1.ab)) rfl ?_
    exact ⟨P - 1, a, 100, rfl, G.out.2⟩

theorem toAcc_any (p a v : Int) (w : World) :
    Calls Try.prog 28 #[AVal p a v] w fun e w' => e = .returned (AVal p a v) ∧ Below w.heap.size w w' := by
  unfold AVal
  go_enter Try.func28, Try.ntmps28
  go_wp2
  refine bodyPost_ret (res_toA (p := p) (a := a) (v := v) _ rfl (cells3 (AF3.alloc (by simpa using AF3.new (w.alloc _) p a v _) _).ab)) rfl ?_
  exact ⟨rfl, (((Below.refl _ w).alloc (Nat.le_refl _) _).alloc (by simp) _).alloc (by simp; omega) _⟩

theorem eqAcc_same (p a v : Int) (w : World) :
    Calls Try.prog 29 #[AVal p a v, AVal p a v] w fun e w' => e = .returned (.bool true) ∧ Below w.heap.size w w' := by
  unfold AVal
  go_enter Try.func29, Try.ntmps29
  go_wp2
  go_ret
  exact ⟨rfl, ((Below.refl _ w).alloc (Nat.le_refl _) _).alloc (by simp) _⟩
end Go.Proofs.Ytndgmglelogegaa
