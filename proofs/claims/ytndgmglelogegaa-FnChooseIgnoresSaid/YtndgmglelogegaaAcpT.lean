/- Acceptors: the transitions, the program's and the model's, by their contracts. -/
import Derived.Test.YtndgmglelogegaaAcp
namespace Go.Proofs.Ytndgmglelogegaa
open Go.RowKit

/-- A state, whether something changed. -/
abbrev Ac := Int × Int × Int
def Ac.val (x : Ac) : Value := AVal x.1 x.2.1 x.2.2
def Ac.ok (x : Ac) : Bool := okA x.1 x.2.1 x.2.2
def prepA (x : Ac) (b : Int) : Ac × Bool := if b ≤ x.1 then (x, false) else ((b, x.2.1, x.2.2), true)
def acceA (x : Ac) (b v : Int) : Ac × Bool := if b < x.1 then (x, false) else ((b, b, v), true)
def aPrep (x : Ac) (b : Int) : Ac × Bool := if x.ok && okB b then prepA x b else ((0, 0, 0), false)
def aAcc (x : Ac) (b v : Int) : Ac × Bool := if x.ok && okB b && okV v then acceA x b v else ((0, 0, 0), false)
/-- A state and a flag, handed back. -/
def Said3 (w : World) (r : Ac × Bool) (e : Ending) (w' : World) : Prop := e = .returned (.tuple #[r.1.val, .bool r.2]) ∧ Below w.heap.size w w'
theorem cells3 {w : World} {b : Nat} {p a v : Int} (h : AB3 w b p a v) : w.cell? ⟨b, 0, none⟩ = some (.int .i64 p) ∧ w.cell? ⟨b, 1, none⟩ = some (.int .i64 a) ∧ w.cell? ⟨b, 2, none⟩ = some (.int .i64 v) := by
  obtain ⟨T, q, h⟩ := h
  exact ⟨by rw [cell_of_row w b 0 _ _ q h]; rfl, by rw [cell_of_row w b 1 _ _ q h]; rfl, by rw [cell_of_row w b 2 _ _ q h]; rfl⟩
theorem res_iPrep {W : World} {b : Nat} {p a v : Int} {ok : Bool} (tmps : Array Value) (h2 : tmps.getD 4 undef = .pointer (some ⟨b, 0, none⟩)) (h3 : tmps.getD 5 undef = .bool ok)
    (h : W.cell? ⟨b, 0, none⟩ = some (.int .i64 p) ∧ W.cell? ⟨b, 1, none⟩ = some (.int .i64 a) ∧ W.cell? ⟨b, 2, none⟩ = some (.int .i64 v)) :
    (results Try.f39 tmps).run Try.prog W = .ok (.tuple #[AVal p a v, .bool ok]) W := by
  obtain ⟨q0, q1, q2⟩ := h
  rw [results_cell_tmp rfl, h2, h3]
  go_simp
  rfl
theorem res_iAcce {W : World} {b : Nat} {p a v : Int} {ok : Bool} (tmps : Array Value) (h2 : tmps.getD 4 undef = .pointer (some ⟨b, 0, none⟩)) (h3 : tmps.getD 5 undef = .bool ok)
    (h : W.cell? ⟨b, 0, none⟩ = some (.int .i64 p) ∧ W.cell? ⟨b, 1, none⟩ = some (.int .i64 a) ∧ W.cell? ⟨b, 2, none⟩ = some (.int .i64 v)) :
    (results Try.f42 tmps).run Try.prog W = .ok (.tuple #[AVal p a v, .bool ok]) W := by
  obtain ⟨q0, q1, q2⟩ := h
  rw [results_cell_tmp rfl, h2, h3]
  go_simp
  rfl
theorem res_iAns {W : World} {b : Nat} {p a v : Int} {ok : Bool} (tmps : Array Value) (h2 : tmps.getD 4 undef = .pointer (some ⟨b, 0, none⟩)) (h3 : tmps.getD 5 undef = .bool ok)
    (h : W.cell? ⟨b, 0, none⟩ = some (.int .i64 p) ∧ W.cell? ⟨b, 1, none⟩ = some (.int .i64 a) ∧ W.cell? ⟨b, 2, none⟩ = some (.int .i64 v)) :
    (results Try.f38 tmps).run Try.prog W = .ok (.tuple #[AVal p a v, .bool ok]) W := by
  obtain ⟨q0, q1, q2⟩ := h
  rw [results_cell_tmp rfl, h2, h3]
  go_simp
  rfl
theorem res_iAPrep {W : World} {b : Nat} {p a v : Int} {ok : Bool} (tmps : Array Value) (h2 : tmps.getD 4 undef = .pointer (some ⟨b, 0, none⟩)) (h3 : tmps.getD 5 undef = .bool ok)
    (h : W.cell? ⟨b, 0, none⟩ = some (.int .i64 p) ∧ W.cell? ⟨b, 1, none⟩ = some (.int .i64 a) ∧ W.cell? ⟨b, 2, none⟩ = some (.int .i64 v)) :
    (results Try.f18 tmps).run Try.prog W = .ok (.tuple #[AVal p a v, .bool ok]) W := by
  obtain ⟨q0, q1, q2⟩ := h
  rw [results_cell_tmp rfl, h2, h3]
  go_simp
  rfl
theorem res_iAAcc {W : World} {b : Nat} {p a v : Int} {ok : Bool} (tmps : Array Value) (h2 : tmps.getD 6 undef = .pointer (some ⟨b, 0, none⟩)) (h3 : tmps.getD 7 undef = .bool ok)
    (h : W.cell? ⟨b, 0, none⟩ = some (.int .i64 p) ∧ W.cell? ⟨b, 1, none⟩ = some (.int .i64 a) ∧ W.cell? ⟨b, 2, none⟩ = some (.int .i64 v)) :
    (results Try.f23 tmps).run Try.prog W = .ok (.tuple #[AVal p a v, .bool ok]) W := by
  obtain ⟨q0, q1, q2⟩ := h
  rw [results_cell_tmp rfl, h2, h3]
  go_simp
  rfl
theorem res_sAPrep {W : World} {b : Nat} {p a v : Int} {ok : Bool} (tmps : Array Value) (h2 : tmps.getD 4 undef = .pointer (some ⟨b, 0, none⟩)) (h3 : tmps.getD 5 undef = .bool ok)
    (h : W.cell? ⟨b, 0, none⟩ = some (.int .i64 p) ∧ W.cell? ⟨b, 1, none⟩ = some (.int .i64 a) ∧ W.cell? ⟨b, 2, none⟩ = some (.int .i64 v)) :
    (results Try.f17 tmps).run Try.prog W = .ok (.tuple #[AVal p a v, .bool ok]) W := by
  obtain ⟨q0, q1, q2⟩ := h
  rw [results_cell_tmp rfl, h2, h3]
  go_simp
  rfl
theorem res_sAAcc {W : World} {b : Nat} {p a v : Int} {ok : Bool} (tmps : Array Value) (h2 : tmps.getD 6 undef = .pointer (some ⟨b, 0, none⟩)) (h3 : tmps.getD 7 undef = .bool ok)
    (h : W.cell? ⟨b, 0, none⟩ = some (.int .i64 p) ∧ W.cell? ⟨b, 1, none⟩ = some (.int .i64 a) ∧ W.cell? ⟨b, 2, none⟩ = some (.int .i64 v)) :
    (results Try.f22 tmps).run Try.prog W = .ok (.tuple #[AVal p a v, .bool ok]) W := by
  obtain ⟨q0, q1, q2⟩ := h
  rw [results_cell_tmp rfl, h2, h3]
  go_simp
  rfl
theorem new3 {w : World} {n : Nat} {p a v : Int} {T : Nat} (hn : n = w.heap.size) : (w.alloc (.cells #[.int .i64 p, .int .i64 a, .int .i64 v] T)).cell? ⟨n, 0, none⟩ = some (.int .i64 p) ∧ (w.alloc (.cells #[.int .i64 p, .int .i64 a, .int .i64 v] T)).cell? ⟨n, 1, none⟩ = some (.int .i64 a) ∧ (w.alloc (.cells #[.int .i64 p, .int .i64 a, .int .i64 v] T)).cell? ⟨n, 2, none⟩ = some (.int .i64 v) := by
  subst hn
  exact cells3 ⟨_, _, heap_alloc_new w _⟩

theorem iPrep_any (p a v b c : Int) (w : World) :
    Calls Try.prog 39 #[.agg #[.int .i64 b, .int .i64 c], AVal p a v] w (Said3 w (prepA (p, a, v) b)) := by
  by_cases h : b ≤ p
  · have e : prepA (p, a, v) b = ((p, a, v), false) := by simp [prepA, h]
    have e1 : decide (b ≤ p) = true := by simpa using h
    rw [e]; clear e h
    unfold AVal
    go_enter Try.func39, Try.ntmps39
    go_wp2
    refine bodyPost_ret (res_iPrep _ rfl rfl (new3 (by simp))) rfl ?_
    exact ⟨rfl, by repeat (first | exact Below.refl _ _ | refine Below.alloc ?_ (by first | exact Nat.le_refl _ | (simp only [World.size_alloc]; omega)) _)⟩
  · have e : prepA (p, a, v) b = ((b, a, v), true) := by simp [prepA, h]
    have e1 : decide (b ≤ p) = false := by simpa using h
    rw [e]; clear e h
    unfold AVal
    go_enter Try.func39, Try.ntmps39
    go_wp2
    refine bodyPost_ret (res_iPrep _ rfl rfl (new3 (by simp))) rfl ?_
    exact ⟨rfl, by repeat (first | exact Below.refl _ _ | refine Below.alloc ?_ (by first | exact Nat.le_refl _ | (simp only [World.size_alloc]; omega)) _)⟩

theorem iAcce_any (p a v b c : Int) (w : World) :
    Calls Try.prog 42 #[.agg #[.int .i64 b, .int .i64 c], AVal p a v] w (Said3 w (acceA (p, a, v) b c)) := by
  by_cases h : b < p
  · have e : acceA (p, a, v) b c = ((p, a, v), false) := by simp [acceA, h]
    have e1 : decide (b < p) = true := by simpa using h
    rw [e]; clear e h
    unfold AVal
    go_enter Try.func42, Try.ntmps42
    go_wp2
    refine bodyPost_ret (res_iAcce _ rfl rfl (new3 (by simp))) rfl ?_
    exact ⟨rfl, by repeat (first | exact Below.refl _ _ | refine Below.alloc ?_ (by first | exact Nat.le_refl _ | (simp only [World.size_alloc]; omega)) _)⟩
  · have e : acceA (p, a, v) b c = ((b, b, c), true) := by simp [acceA, h]
    have e1 : decide (b < p) = false := by simpa using h
    rw [e]; clear e h
    unfold AVal
    go_enter Try.func42, Try.ntmps42
    go_wp2
    refine bodyPost_ret (res_iAcce _ rfl rfl (new3 (by simp))) rfl ?_
    exact ⟨rfl, by repeat (first | exact Below.refl _ _ | refine Below.alloc ?_ (by first | exact Nat.le_refl _ | (simp only [World.size_alloc]; omega)) _)⟩
end Go.Proofs.Ytndgmglelogegaa
