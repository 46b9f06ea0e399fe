/- Acceptors: states, the program's and the model's checks and transitions, by their contracts. -/
import Derived.Test.YtbkdhjmfphhhoaaGb
import Derived.Laws.ResultCell
import Derived.Laws.StructEq
import Derived.Deep.RegionLaw
import Derived.Deep.Slices
import Derived.Deep.Fields
import Derived.Lib.SmallJoins
namespace Go.Proofs.Ytbkdhjmfphhhoaa
open Go.RowKit

/-- A state that an acceptor can have. -/
def okA (p a v : Int) : Bool := decide (0 ≤ a ∧ a ≤ p ∧ p ≤ 20 ∧ ((a = 0 ∧ v = 0) ∨ (0 < a ∧ 1 ≤ v ∧ v ≤ 99)))
def AVal (p a v : Int) : Value := .agg #[.int .i64 p, .int .i64 a, .int .i64 v]
def okB (b : Int) : Bool := decide (1 ≤ b ∧ b ≤ 20)
def okV (v : Int) : Bool := decide (1 ≤ v ∧ v ≤ 99)
/-- A state in memory. -/
def AB3 (w : World) (b : Nat) (p a v : Int) : Prop := ∃ T q, w.heap[b]? = some (.cells #[.int .i64 p, .int .i64 a, .int .i64 v] T q)

theorem isBallot_any (b : Int) (w : World) :
    Calls Try.prog 73 #[.int .i64 b] w fun e w' => e = .returned (.bool (okB b)) ∧ w = w' := by
  by_cases h1 : 1 ≤ b
  · by_cases h2 : b ≤ 20
    · have e1 : decide (1 ≤ b) = true := by simpa using h1
      have e2 : decide (b ≤ 20) = true := by simpa using h2
      have e : okB b = true := by simp [okB]; omega
      rw [e]; clear e h1 h2
      go_enter Try.func73, Try.ntmps73
      go_wp2
      go_ret
      exact ⟨by simp_all, rfl⟩
    · have e1 : decide (1 ≤ b) = true := by simpa using h1
      have e2 : decide (b ≤ 20) = false := by simpa using h2
      have e : okB b = false := by simp [okB]; omega
      rw [e]; clear e h1 h2
      go_enter Try.func73, Try.ntmps73
      go_wp2
      go_ret
      exact ⟨by simp_all, rfl⟩
  · have e1 : decide (1 ≤ b) = false := by simpa using h1
    have e : okB b = false := by simp [okB]; omega
    rw [e]; clear e h1
    go_enter Try.func73, Try.ntmps73
    go_wp2
    go_ret
    exact ⟨by simp_all, rfl⟩
theorem isValue_any (b : Int) (w : World) :
    Calls Try.prog 76 #[.int .i64 b] w fun e w' => e = .returned (.bool (okV b)) ∧ w = w' := by
  by_cases h1 : 1 ≤ b
  · by_cases h2 : b ≤ 99
    · have e1 : decide (1 ≤ b) = true := by simpa using h1
      have e2 : decide (b ≤ 99) = true := by simpa using h2
      have e : okV b = true := by simp [okV]; omega
      rw [e]; clear e h1 h2
      go_enter Try.func76, Try.ntmps76
      go_wp2
      go_ret
      exact ⟨by simp_all, rfl⟩
    · have e1 : decide (1 ≤ b) = true := by simpa using h1
      have e2 : decide (b ≤ 99) = false := by simpa using h2
      have e : okV b = false := by simp [okV]; omega
      rw [e]; clear e h1 h2
      go_enter Try.func76, Try.ntmps76
      go_wp2
      go_ret
      exact ⟨by simp_all, rfl⟩
  · have e1 : decide (1 ≤ b) = false := by simpa using h1
    have e : okV b = false := by simp [okV]; omega
    rw [e]; clear e h1
    go_enter Try.func76, Try.ntmps76
    go_wp2
    go_ret
    exact ⟨by simp_all, rfl⟩
theorem l6In_any (n a b : Int) (w : World) :
    Calls Try.prog 66 #[.int .i64 n, .int .i64 a, .int .i64 b] w fun e w' => e = .returned (.bool (decide (a ≤ n ∧ n ≤ b))) ∧ w = w' := by
  by_cases h1 : a ≤ n
  · by_cases h2 : n ≤ b
    · have e1 : decide (a ≤ n) = true := by simpa using h1
      have e2 : decide (n ≤ b) = true := by simpa using h2
      have e : decide (a ≤ n ∧ n ≤ b) = true := by simp; omega
      rw [e]; clear e h1 h2
      go_enter Try.func66, Try.ntmps66
      go_wp2
      go_ret
      exact ⟨by simp_all, rfl⟩
    · have e1 : decide (a ≤ n) = true := by simpa using h1
      have e2 : decide (n ≤ b) = false := by simpa using h2
      have e : decide (a ≤ n ∧ n ≤ b) = false := by simp; omega
      rw [e]; clear e h1 h2
      go_enter Try.func66, Try.ntmps66
      go_wp2
      go_ret
      exact ⟨by simp_all, rfl⟩
  · have e1 : decide (a ≤ n) = false := by simpa using h1
    have e : decide (a ≤ n ∧ n ≤ b) = false := by simp; omega
    rw [e]; clear e h1
    go_enter Try.func66, Try.ntmps66
    go_wp2
    go_ret
    exact ⟨by simp_all, rfl⟩
theorem l21Value_any (v : Int) (w : World) :
    Calls Try.prog 67 #[.int .i64 v] w fun e w' => e = .returned (.bool (okV v)) ∧ w = w' := by
  obtain ⟨t, ht⟩ : ∃ t, t = okV v := ⟨_, rfl⟩
  rw [← ht]
  have HT := Lib.hid (show decide (1 ≤ v ∧ v ≤ 99) = t from ht.symm)
  clear ht
  go_enter Try.func67, Try.ntmps67
  go_wp2_with fail
  refine (l6In_any _ _ _ _).mono ?_
  rintro e w1 ⟨rfl, rfl⟩
  rw [HT.out]
  go_wp2
  go_ret
  exact ⟨rfl, rfl⟩
theorem impValid_any (p a v : Int) (w : World) :
    Calls Try.prog 77 #[AVal p a v] w fun e w' => e = .returned (.bool (okA p a v)) ∧ Below w.heap.size w w' := by
  by_cases h1 : a < 0
  · have e1 : decide (a < 0) = true := by simpa using h1
    have e : okA p a v = false := by simp [okA]; omega
    rw [e]; clear e h1
    unfold AVal
    go_enter Try.func77, Try.ntmps77
    go_wp2
    go_ret
    exact ⟨by simp_all, (Below.refl _ w).alloc (Nat.le_refl _) _⟩
  have e1 : decide (a < 0) = false := by simpa using h1
  by_cases h2 : p < a
  · have e2 : decide (p < a) = true := by simpa using h2
    have e : okA p a v = false := by simp [okA]; omega
    rw [e]; clear e h1 h2
    unfold AVal
    go_enter Try.func77, Try.ntmps77
    go_wp2
    go_ret
    exact ⟨by simp_all, (Below.refl _ w).alloc (Nat.le_refl _) _⟩
  have e2 : decide (p < a) = false := by simpa using h2
  by_cases h3 : 20 < p
  · have e3 : decide (20 < p) = true := by simpa using h3
    have e : okA p a v = false := by simp [okA]; omega
    rw [e]; clear e h1 h2 h3
    unfold AVal
    go_enter Try.func77, Try.ntmps77
    go_wp2
    go_ret
    exact ⟨by simp_all, (Below.refl _ w).alloc (Nat.le_refl _) _⟩
  have e3 : decide (20 < p) = false := by simpa using h3
  by_cases h4 : a = 0
  · have e : okA p a v = (v == 0) := by rw [Bool.eq_iff_iff]; simp [okA]; omega
    rw [e]
    have e4 : (a == 0) = true := by simpa using h4
    clear e h1 h2 h3 h4
    unfold AVal
    generalize hz : (v == 0) = z
    go_enter Try.func77, Try.ntmps77
    go_wp2
    go_ret
    exact ⟨by simp_all, (Below.refl _ w).alloc (Nat.le_refl _) _⟩
  · have e : okA p a v = okV v := by rw [Bool.eq_iff_iff]; simp [okA, okV]; omega
    rw [e]
    obtain ⟨t, ht⟩ : ∃ t, t = okV v := ⟨_, rfl⟩
    rw [← ht]
    have HT := Lib.hid ht.symm
    clear ht
    have e4 : (a == 0) = false := by simpa using h4
    clear e h1 h2 h3 h4
    unfold AVal
    go_enter Try.func77, Try.ntmps77
    go_wp2_with fail
    refine (isValue_any _ _).mono ?_
    rintro e w1 ⟨rfl, rfl⟩
    rw [HT.out]
    go_wp2
    go_ret
    exact ⟨by simp_all, (Below.refl _ w).alloc (Nat.le_refl _) _⟩
end Go.Proofs.Ytbkdhjmfphhhoaa

/- Acceptors: the transitions, the program's and the model's, by their contracts. -/
namespace Go.Proofs.Ytbkdhjmfphhhoaa
open Go.RowKit

/-- A state, whether something changed. -/
abbrev Ac := Int × Int × Int
def Ac.val (x : Ac) : Value := AVal x.1 x.2.1 x.2.2
def Ac.ok (x : Ac) : Bool := okA x.1 x.2.1 x.2.2
def prepA (x : Ac) (b : Int) : Ac × Bool := if b ≤ x.1 then (x, false) else ((b, x.2.1, x.2.2), true)
def acceA (x : Ac) (b v : Int) : Ac × Bool := if b < x.1 then (x, false) else ((b, b, v), true)
def aPrep (x : Ac) (b : Int) : Ac × Bool := if x.ok && okB b then prepA x b else ((0, 0, 0), false)
def aAcc (x : Ac) (b v : Int) : Ac × Bool := if x.ok && okB b && okV v then acceA x b v else ((0, 0, 0), false)
/-- A state and a flag, handed back. -/
def Said3 (w : World) (r : Ac × Bool) (e : Ending) (w' : World) : Prop := e = .returned (.tuple #[r.1.val, .bool r.2]) ∧ Below w.heap.size w w'
theorem cells3 {w : World} {b : Nat} {p a v : Int} (h : AB3 w b p a v) : w.cell? ⟨b, 0, none⟩ = some (.int .i64 p) ∧ w.cell? ⟨b, 1, none⟩ = some (.int .i64 a) ∧ w.cell? ⟨b, 2, none⟩ = some (.int .i64 v) := by
  obtain ⟨T, q, h⟩ := h
  exact ⟨by rw [cell_of_row w b 0 _ _ q h]; rfl, by rw [cell_of_row w b 1 _ _ q h]; rfl, by rw [cell_of_row w b 2 _ _ q h]; rfl⟩
theorem res_iPrep {W : World} {b : Nat} {p a v : Int} {ok : Bool} (tmps : Array Value) (h2 : tmps.getD 4 undef = .pointer (some ⟨b, 0, none⟩)) (h3 : tmps.getD 5 undef = .bool ok)
    (h : W.cell? ⟨b, 0, none⟩ = some (.int .i64 p) ∧ W.cell? ⟨b, 1, none⟩ = some (.int .i64 a) ∧ W.cell? ⟨b, 2, none⟩ = some (.int .i64 v)) :
    (results Try.f75 tmps).run Try.prog W = .ok (.tuple #[AVal p a v, .bool ok]) W := by
  obtain ⟨q0, q1, q2⟩ := h
  rw [results_cell_tmp rfl, h2, h3]
  go_simp
  rfl
theorem res_iAcce {W : World} {b : Nat} {p a v : Int} {ok : Bool} (tmps : Array Value) (h2 : tmps.getD 4 undef = .pointer (some ⟨b, 0, none⟩)) (h3 : tmps.getD 5 undef = .bool ok)
    (h : W.cell? ⟨b, 0, none⟩ = some (.int .i64 p) ∧ W.cell? ⟨b, 1, none⟩ = some (.int .i64 a) ∧ W.cell? ⟨b, 2, none⟩ = some (.int .i64 v)) :
    (results Try.f175 tmps).run Try.prog W = .ok (.tuple #[AVal p a v, .bool ok]) W := by
  obtain ⟨q0, q1, q2⟩ := h
  rw [results_cell_tmp rfl, h2, h3]
  go_simp
  rfl
theorem res_iAns {W : World} {b : Nat} {p a v : Int} {ok : Bool} (tmps : Array Value) (h2 : tmps.getD 4 undef = .pointer (some ⟨b, 0, none⟩)) (h3 : tmps.getD 5 undef = .bool ok)
    (h : W.cell? ⟨b, 0, none⟩ = some (.int .i64 p) ∧ W.cell? ⟨b, 1, none⟩ = some (.int .i64 a) ∧ W.cell? ⟨b, 2, none⟩ = some (.int .i64 v)) :
    (results Try.f74 tmps).run Try.prog W = .ok (.tuple #[AVal p a v, .bool ok]) W := by
  obtain ⟨q0, q1, q2⟩ := h
  rw [results_cell_tmp rfl, h2, h3]
  go_simp
  rfl
theorem res_iAPrep {W : World} {b : Nat} {p a v : Int} {ok : Bool} (tmps : Array Value) (h2 : tmps.getD 4 undef = .pointer (some ⟨b, 0, none⟩)) (h3 : tmps.getD 5 undef = .bool ok)
    (h : W.cell? ⟨b, 0, none⟩ = some (.int .i64 p) ∧ W.cell? ⟨b, 1, none⟩ = some (.int .i64 a) ∧ W.cell? ⟨b, 2, none⟩ = some (.int .i64 v)) :
    (results Try.f26 tmps).run Try.prog W = .ok (.tuple #[AVal p a v, .bool ok]) W := by
  obtain ⟨q0, q1, q2⟩ := h
  rw [results_cell_tmp rfl, h2, h3]
  go_simp
  rfl
theorem res_sAPrep {W : World} {b : Nat} {p a v : Int} {ok : Bool} (tmps : Array Value) (h2 : tmps.getD 4 undef = .pointer (some ⟨b, 0, none⟩)) (h3 : tmps.getD 5 undef = .bool ok)
    (h : W.cell? ⟨b, 0, none⟩ = some (.int .i64 p) ∧ W.cell? ⟨b, 1, none⟩ = some (.int .i64 a) ∧ W.cell? ⟨b, 2, none⟩ = some (.int .i64 v)) :
    (results Try.f119 tmps).run Try.prog W = .ok (.tuple #[AVal p a v, .bool ok]) W := by
  obtain ⟨q0, q1, q2⟩ := h
  rw [results_cell_tmp rfl, h2, h3]
  go_simp
  rfl
theorem res_sAAcc {W : World} {b : Nat} {p a v : Int} {ok : Bool} (tmps : Array Value) (h2 : tmps.getD 6 undef = .pointer (some ⟨b, 0, none⟩)) (h3 : tmps.getD 7 undef = .bool ok)
    (h : W.cell? ⟨b, 0, none⟩ = some (.int .i64 p) ∧ W.cell? ⟨b, 1, none⟩ = some (.int .i64 a) ∧ W.cell? ⟨b, 2, none⟩ = some (.int .i64 v)) :
    (results Try.f122 tmps).run Try.prog W = .ok (.tuple #[AVal p a v, .bool ok]) W := by
  obtain ⟨q0, q1, q2⟩ := h
  rw [results_cell_tmp rfl, h2, h3]
  go_simp
  rfl
theorem new3 {w : World} {n : Nat} {p a v : Int} {T : Nat} (hn : n = w.heap.size) : (w.alloc (.cells #[.int .i64 p, .int .i64 a, .int .i64 v] T)).cell? ⟨n, 0, none⟩ = some (.int .i64 p) ∧ (w.alloc (.cells #[.int .i64 p, .int .i64 a, .int .i64 v] T)).cell? ⟨n, 1, none⟩ = some (.int .i64 a) ∧ (w.alloc (.cells #[.int .i64 p, .int .i64 a, .int .i64 v] T)).cell? ⟨n, 2, none⟩ = some (.int .i64 v) := by
  subst hn
  exact cells3 ⟨_, _, heap_alloc_new w _⟩

theorem iPrep_any (p a v b c : Int) (w : World) :
    Calls Try.prog 75 #[.agg #[.int .i64 b, .int .i64 c], AVal p a v] w (Said3 w (prepA (p, a, v) b)) := by
  by_cases h : b ≤ p
  · have e : prepA (p, a, v) b = ((p, a, v), false) := by simp [prepA, h]
    have e1 : decide (b ≤ p) = true := by simpa using h
    rw [e]; clear e h
    unfold AVal
    go_enter Try.func75, Try.ntmps75
    go_wp2
    refine bodyPost_ret (res_iPrep _ rfl rfl (new3 (by simp))) rfl ?_
    exact ⟨rfl, by repeat (first | exact Below.refl _ _ | refine Below.alloc ?_ (by first | exact Nat.le_refl _ | (simp only [World.size_alloc]; omega)) _)⟩
  · have e : prepA (p, a, v) b = ((b, a, v), true) := by simp [prepA, h]
    have e1 : decide (b ≤ p) = false := by simpa using h
    rw [e]; clear e h
    unfold AVal
    go_enter Try.func75, Try.ntmps75
    go_wp2
    refine bodyPost_ret (res_iPrep _ rfl rfl (new3 (by simp))) rfl ?_
    exact ⟨rfl, by repeat (first | exact Below.refl _ _ | refine Below.alloc ?_ (by first | exact Nat.le_refl _ | (simp only [World.size_alloc]; omega)) _)⟩

theorem iAcce_any (p a v b c : Int) (w : World) :
    Calls Try.prog 175 #[.agg #[.int .i64 b, .int .i64 c], AVal p a v] w (Said3 w (acceA (p, a, v) b c)) := by
  by_cases h : b < p
  · have e : acceA (p, a, v) b c = ((p, a, v), false) := by simp [acceA, h]
    have e1 : decide (b < p) = true := by simpa using h
    rw [e]; clear e h
    unfold AVal
    go_enter Try.func175, Try.ntmps175
    go_wp2
    refine bodyPost_ret (res_iAcce _ rfl rfl (new3 (by simp))) rfl ?_
    exact ⟨rfl, by repeat (first | exact Below.refl _ _ | refine Below.alloc ?_ (by first | exact Nat.le_refl _ | (simp only [World.size_alloc]; omega)) _)⟩
  · have e : acceA (p, a, v) b c = ((b, b, c), true) := by simp [acceA, h]
    have e1 : decide (b < p) = false := by simpa using h
    rw [e]; clear e h
    unfold AVal
    go_enter Try.func175, Try.ntmps175
    go_wp2
    refine bodyPost_ret (res_iAcce _ rfl rfl (new3 (by simp))) rfl ?_
    exact ⟨rfl, by repeat (first | exact Below.refl _ _ | refine Below.alloc ?_ (by first | exact Nat.le_refl _ | (simp only [World.size_alloc]; omega)) _)⟩
end Go.Proofs.Ytbkdhjmfphhhoaa

/- Acceptors: the whole of AcceptorPrepare and AcceptorAccept, the program's and the model's, by their contracts. -/
namespace Go.Proofs.Ytbkdhjmfphhhoaa
open Go.RowKit

section
variable {w w' : World} {b : Nat} {p a v : Int}
theorem AB3.lt (h : AB3 w b p a v) : b < w.heap.size := by obtain ⟨T, q, h⟩ := h; exact (Array.getElem?_eq_some_iff.1 h).1
theorem AB3.kept (h : AB3 w b p a v) (hb : w'.heap[b]? = w.heap[b]?) : AB3 w' b p a v := by obtain ⟨T, q, h⟩ := h; exact ⟨T, q, hb.trans h⟩
theorem AB3.below (h : AB3 w b p a v) (hb : Below w.heap.size w w') : AB3 w' b p a v := h.kept (hb.block b h.lt)
theorem AB3.below' {B : Nat} (h : AB3 w b p a v) (hb : Below B w w') (hB : b < B) : AB3 w' b p a v := h.kept (hb.block b hB)
end
/-- A state that has not been frozen. -/
def AF3 (w : World) (b : Nat) (p a v : Int) : Prop := ∃ T, w.heap[b]? = some (.cells #[.int .i64 p, .int .i64 a, .int .i64 v] T (0, 0))
section
variable {w w' : World} {b : Nat} {p a v : Int}
theorem AF3.ab (h : AF3 w b p a v) : AB3 w b p a v := by obtain ⟨T, h⟩ := h; exact ⟨T, _, h⟩
theorem AF3.fz (h : AF3 w b p a v) (j : Nat) : w.frozen? ⟨b, j, none⟩ = false := by obtain ⟨T, h⟩ := h; exact frozen_of_row w b j _ _ h
theorem AF3.kept (h : AF3 w b p a v) (hb : w'.heap[b]? = w.heap[b]?) : AF3 w' b p a v := by obtain ⟨T, h⟩ := h; exact ⟨T, hb.trans h⟩
theorem AF3.lt (h : AF3 w b p a v) : b < w.heap.size := h.ab.lt
theorem AF3.below (h : AF3 w b p a v) (hb : Below w.heap.size w w') : AF3 w' b p a v := h.kept (hb.block b h.lt)
theorem AF3.set0 (h : AF3 w b p a v) (x : Int) : AF3 (w.setCell ⟨b, 0, none⟩ (.int .i64 x)) b x a v := by
  obtain ⟨T, h⟩ := h
  refine ⟨T, ?_⟩
  rw [heap_setCell_same w b 0 _ _ _ h]
  rfl
theorem AF3.set1 (h : AF3 w b p a v) (x : Int) : AF3 (w.setCell ⟨b, 1, none⟩ (.int .i64 x)) b p x v := by
  obtain ⟨T, h⟩ := h
  refine ⟨T, ?_⟩
  rw [heap_setCell_same w b 1 _ _ _ h]
  rfl
theorem AF3.set2 (h : AF3 w b p a v) (x : Int) : AF3 (w.setCell ⟨b, 2, none⟩ (.int .i64 x)) b p a x := by
  obtain ⟨T, h⟩ := h
  refine ⟨T, ?_⟩
  rw [heap_setCell_same w b 2 _ _ _ h]
  rfl
def set3 (w : World) (b : Nat) (p a v : Int) : World := ((w.setCell ⟨b, 0, none⟩ (.int .i64 p)).setCell ⟨b, 1, none⟩ (.int .i64 a)).setCell ⟨b, 2, none⟩ (.int .i64 v)
theorem AF3.set3 (h : AF3 w b p a v) (p' a' v' : Int) : AF3 (set3 w b p' a' v') b p' a' v' := ((h.set0 p').set1 a').set2 v'
theorem set3_below {x : World} {B : Nat} (h : Below B x w) (hb : B ≤ b) (p' a' v' : Int) : Below B x (Go.Proofs.Ytbkdhjmfphhhoaa.set3 w b p' a' v') := ((h.setCell hb _).setCell hb _).setCell hb _
theorem AF3.new (w : World) (p a v : Int) (T : Nat) : AF3 (w.alloc (.cells #[.int .i64 p, .int .i64 a, .int .i64 v] T)) w.heap.size p a v := ⟨T, heap_alloc_new w _⟩
theorem AF3.alloc (h : AF3 w b p a v) (o : Obj) : AF3 (w.alloc o) b p a v := h.kept (Below.heap_alloc w o b h.lt)
end
/-- A state boxed, a place for the result. -/
def two3 (w : World) (p a v : Int) : World := (w.alloc (.cells #[.int .i64 p, .int .i64 a, .int .i64 v] 35)).alloc (.cells #[.int .i64 0, .int .i64 0, .int .i64 0] 35)
theorem two3_facts (w : World) (p a v : Int) : AF3 (two3 w p a v) w.heap.size p a v ∧ AF3 (two3 w p a v) (w.heap.size + 1) 0 0 0 ∧ Below w.heap.size w (two3 w p a v) := by
  refine ⟨(AF3.new w p a v _).alloc _, ?_, ((Below.refl _ w).alloc (Nat.le_refl _) _).alloc (by simp) _⟩
  have := AF3.new (w.alloc (.cells #[.int .i64 p, .int .i64 a, .int .i64 v] 35)) 0 0 0 35
  rw [World.size_alloc] at this
  exact this

set_option maxRecDepth 100000 in
set_option maxHeartbeats 1600000 in
theorem ansP (p a v b c : Int) (w : World) :
    Calls Try.prog 74 #[AVal p a v, .func (.func 75) #[.agg #[.int .i64 b, .int .i64 c]] #[]] w (Said3 w (if okA p a v then prepA (p, a, v) b else ((0, 0, 0), false))) := by
  have H0 := Lib.hid (two3_facts w p a v)
  by_cases hok : okA p a v = true
  · rw [hok, if_pos rfl]
    obtain ⟨r, hr⟩ : ∃ r, r = prepA (p, a, v) b := ⟨_, rfl⟩
    rw [← hr]
    have HR := Lib.hid hr
    clear hr
    obtain ⟨⟨p', a', v'⟩, t⟩ := r
    unfold AVal
    go_enter Try.func74, Try.ntmps74
    go_wp2_with fail
    refine (impValid_any _ _ _ _).mono ?_
    rintro e w1 ⟨rfl, b1⟩
    have G := Lib.hid (And.intro (H0.out.1.below b1) (And.intro (H0.out.2.1.below b1) (below_step H0.out.2.2 (b1.mono (Nat.le_refl _)))))
    clear H0 b1
    rw [hok]
    obtain ⟨q0, q1, q2⟩ := cells3 G.out.1.ab
    go_wp2_with fail
    refine (iPrep_any p a v b c _).mono ?_
    rintro e w2 ⟨rfl, b2⟩
    have G2 := Lib.hid (And.intro (G.out.2.1.below b2) (below_step G.out.2.2 (b2.mono (Nat.le_refl _))))
    clear G b2 q0 q1 q2
    rw [← HR.out]
    obtain ⟨q0, q1, q2⟩ := cells3 G2.out.1.ab
    have z0 := G2.out.1.fz 0
    have z1 := G2.out.1.fz 1
    have z2 := G2.out.1.fz 2
    have G3 := Lib.hid (And.intro (G2.out.1.set3 p' a' v') (set3_below G2.out.2 (Nat.le_succ _) p' a' v'))
    simp only [Ac.val, AVal]
    go_wp2
    refine bodyPost_ret (res_iAns _ rfl rfl (cells3 G3.out.1.ab)) rfl ?_
    exact ⟨rfl, G3.out.2⟩
  · rw [Bool.not_eq_true] at hok
    rw [hok, if_neg (by simp)]
    unfold AVal
    go_enter Try.func74, Try.ntmps74
    go_wp2_with fail
    refine (impValid_any _ _ _ _).mono ?_
    rintro e w1 ⟨rfl, b1⟩
    have G := Lib.hid (And.intro (H0.out.1.below b1) (And.intro (H0.out.2.1.below b1) (below_step H0.out.2.2 (b1.mono (Nat.le_refl _)))))
    clear H0 b1
    rw [hok]
    obtain ⟨q0, q1, q2⟩ := cells3 G.out.2.1.ab
    have z0 := G.out.2.1.fz 0
    have z1 := G.out.2.1.fz 1
    have z2 := G.out.2.1.fz 2
    have G3 := Lib.hid (And.intro (G.out.2.1.set3 0 0 0) (set3_below G.out.2.2 (Nat.le_succ _) 0 0 0))
    go_wp2
    refine bodyPost_ret (res_iAns _ rfl rfl (cells3 G3.out.1.ab)) rfl ?_
    exact ⟨rfl, G3.out.2⟩

set_option maxRecDepth 100000 in
set_option maxHeartbeats 1600000 in
theorem ansA (p a v b c : Int) (w : World) :
    Calls Try.prog 74 #[AVal p a v, .func (.func 175) #[.agg #[.int .i64 b, .int .i64 c]] #[]] w (Said3 w (if okA p a v then acceA (p, a, v) b c else ((0, 0, 0), false))) := by
  have H0 := Lib.hid (two3_facts w p a v)
  by_cases hok : okA p a v = true
  · rw [hok, if_pos rfl]
    obtain ⟨r, hr⟩ : ∃ r, r = acceA (p, a, v) b c := ⟨_, rfl⟩
    rw [← hr]
    have HR := Lib.hid hr
    clear hr
    obtain ⟨⟨p', a', v'⟩, t⟩ := r
    unfold AVal
    go_enter Try.func74, Try.ntmps74
    go_wp2_with fail
    refine (impValid_any _ _ _ _).mono ?_
    rintro e w1 ⟨rfl, b1⟩
    have G := Lib.hid (And.intro (H0.out.1.below b1) (And.intro (H0.out.2.1.below b1) (below_step H0.out.2.2 (b1.mono (Nat.le_refl _)))))
    clear H0 b1
    rw [hok]
    obtain ⟨q0, q1, q2⟩ := cells3 G.out.1.ab
    go_wp2_with fail
    refine (iAcce_any p a v b c _).mono ?_
    rintro e w2 ⟨rfl, b2⟩
    have G2 := Lib.hid (And.intro (G.out.2.1.below b2) (below_step G.out.2.2 (b2.mono (Nat.le_refl _))))
    clear G b2 q0 q1 q2
    rw [← HR.out]
    obtain ⟨q0, q1, q2⟩ := cells3 G2.out.1.ab
    have z0 := G2.out.1.fz 0
    have z1 := G2.out.1.fz 1
    have z2 := G2.out.1.fz 2
    have G3 := Lib.hid (And.intro (G2.out.1.set3 p' a' v') (set3_below G2.out.2 (Nat.le_succ _) p' a' v'))
    simp only [Ac.val, AVal]
    go_wp2
    refine bodyPost_ret (res_iAns _ rfl rfl (cells3 G3.out.1.ab)) rfl ?_
    exact ⟨rfl, G3.out.2⟩
  · rw [Bool.not_eq_true] at hok
    rw [hok, if_neg (by simp)]
    unfold AVal
    go_enter Try.func74, Try.ntmps74
    go_wp2_with fail
    refine (impValid_any _ _ _ _).mono ?_
    rintro e w1 ⟨rfl, b1⟩
    have G := Lib.hid (And.intro (H0.out.1.below b1) (And.intro (H0.out.2.1.below b1) (below_step H0.out.2.2 (b1.mono (Nat.le_refl _)))))
    clear H0 b1
    rw [hok]
    obtain ⟨q0, q1, q2⟩ := cells3 G.out.2.1.ab
    have z0 := G.out.2.1.fz 0
    have z1 := G.out.2.1.fz 1
    have z2 := G.out.2.1.fz 2
    have G3 := Lib.hid (And.intro (G.out.2.1.set3 0 0 0) (set3_below G.out.2.2 (Nat.le_succ _) 0 0 0))
    go_wp2
    refine bodyPost_ret (res_iAns _ rfl rfl (cells3 G3.out.1.ab)) rfl ?_
    exact ⟨rfl, G3.out.2⟩
end Go.Proofs.Ytbkdhjmfphhhoaa

/- Acceptors: the whole of AcceptorPrepare and AcceptorAccept, the program's and the model's, by their contracts. -/
namespace Go.Proofs.Ytbkdhjmfphhhoaa
open Go.RowKit

theorem spcValid_any (p a v : Int) (w : World) :
    Calls Try.prog 70 #[AVal p a v] w fun e w' => e = .returned (.bool (okA p a v)) ∧ Below w.heap.size w w' := by
  by_cases h1 : 0 ≤ p ∧ p ≤ 20
  · have e1 : decide (0 ≤ p ∧ p ≤ 20) = true := by simpa using h1
    by_cases h2 : 0 ≤ a ∧ a ≤ p
    · have e2 : decide (0 ≤ a ∧ a ≤ p) = true := by simpa using h2
      by_cases h3 : a = 0
      · have e3 : (a == 0) = true := by simpa using h3
        have e3' : decide (0 < a) = false := by simp; omega
        by_cases h4 : v = 0
        · have e4 : (v == 0) = true := by simpa using h4
          have e : okA p a v = true := by simp [okA]; omega
          rw [e]
          have E := Lib.hid (And.intro e1 e2)
          clear e h1 h2 h3 h4 e1 e2
          unfold AVal
          go_enter Try.func70, Try.ntmps70
          go_wp2_with fail
          refine (l6In_any _ _ _ _).mono ?_
          rintro e w1 ⟨rfl, rfl⟩
          rw [E.out.1]
          go_wp2_with fail
          refine (l6In_any _ _ _ _).mono ?_
          rintro e w1 ⟨rfl, rfl⟩
          rw [E.out.2]
          go_wp2
          go_ret
          exact ⟨by simp_all, (Below.refl _ w).alloc (Nat.le_refl _) _⟩
        · have e4 : (v == 0) = false := by simpa using h4
          have e : okA p a v = false := by simp [okA]; omega
          rw [e]
          have E := Lib.hid (And.intro e1 e2)
          clear e h1 h2 h3 h4 e1 e2
          unfold AVal
          go_enter Try.func70, Try.ntmps70
          go_wp2_with fail
          refine (l6In_any _ _ _ _).mono ?_
          rintro e w1 ⟨rfl, rfl⟩
          rw [E.out.1]
          go_wp2_with fail
          refine (l6In_any _ _ _ _).mono ?_
          rintro e w1 ⟨rfl, rfl⟩
          rw [E.out.2]
          go_wp2
          go_ret
          exact ⟨by simp_all, (Below.refl _ w).alloc (Nat.le_refl _) _⟩
      · have e3 : (a == 0) = false := by simpa using h3
        have e3' : decide (0 < a) = true := by simp; omega
        have e : okA p a v = okV v := by rw [Bool.eq_iff_iff]; simp [okA, okV]; omega
        rw [e]
        obtain ⟨t, ht⟩ : ∃ t, t = okV v := ⟨_, rfl⟩
        rw [← ht]
        have E := Lib.hid (And.intro e1 (And.intro e2 ht.symm))
        clear e h1 h2 h3 e1 e2 ht
        unfold AVal
        go_enter Try.func70, Try.ntmps70
        go_wp2_with fail
        refine (l6In_any _ _ _ _).mono ?_
        rintro e w1 ⟨rfl, rfl⟩
        rw [E.out.1]
        go_wp2_with fail
        refine (l6In_any _ _ _ _).mono ?_
        rintro e w1 ⟨rfl, rfl⟩
        rw [E.out.2.1]
        go_wp2_with fail
        refine (l21Value_any _ _).mono ?_
        rintro e w1 ⟨rfl, rfl⟩
        rw [E.out.2.2]
        go_wp2
        go_ret
        exact ⟨by simp_all, (Below.refl _ w).alloc (Nat.le_refl _) _⟩
    · have e2 : decide (0 ≤ a ∧ a ≤ p) = false := by simpa using h2
      have e : okA p a v = false := by simp [okA]; omega
      rw [e]
      have E := Lib.hid (And.intro e1 e2)
      clear e h1 h2 e1 e2
      unfold AVal
      go_enter Try.func70, Try.ntmps70
      go_wp2_with fail
      refine (l6In_any _ _ _ _).mono ?_
      rintro e w1 ⟨rfl, rfl⟩
      rw [E.out.1]
      go_wp2_with fail
      refine (l6In_any _ _ _ _).mono ?_
      rintro e w1 ⟨rfl, rfl⟩
      rw [E.out.2]
      go_wp2
      go_ret
      exact ⟨by simp_all, (Below.refl _ w).alloc (Nat.le_refl _) _⟩
  · have e1 : decide (0 ≤ p ∧ p ≤ 20) = false := by simpa using h1
    have e : okA p a v = false := by simp [okA]; omega
    rw [e]
    have E := Lib.hid e1
    clear e h1 e1
    unfold AVal
    go_enter Try.func70, Try.ntmps70
    go_wp2_with fail
    refine (l6In_any _ _ _ _).mono ?_
    rintro e w1 ⟨rfl, rfl⟩
    rw [E.out]
    go_wp2
    go_ret
    exact ⟨by simp_all, (Below.refl _ w).alloc (Nat.le_refl _) _⟩
theorem two3_new (w : World) (p a v : Int) : (two3 w p a v).cell? ⟨w.heap.size + 1, 0, none⟩ = some (.int .i64 0) ∧ (two3 w p a v).cell? ⟨w.heap.size + 1, 1, none⟩ = some (.int .i64 0) ∧ (two3 w p a v).cell? ⟨w.heap.size + 1, 2, none⟩ = some (.int .i64 0) := cells3 (two3_facts w p a v).2.1.ab

set_option maxRecDepth 100000 in
set_option maxHeartbeats 1600000 in
theorem iAPrep_any (p a v b : Int) (w : World) :
    Calls Try.prog 26 #[AVal p a v, .int .i64 b] w (Said3 w (aPrep (p, a, v) b)) := by
  by_cases hb : okB b = true
  · have er : aPrep (p, a, v) b = if okA p a v then prepA (p, a, v) b else ((0, 0, 0), false) := by simp [aPrep, hb, Ac.ok]
    rw [er]
    clear er
    obtain ⟨r, hr⟩ : ∃ r, r = (if okA p a v then prepA (p, a, v) b else ((0, 0, 0), false)) := ⟨_, rfl⟩
    rw [← hr]
    have HR := Lib.hid hr
    clear hr
    obtain ⟨⟨p', a', v'⟩, t⟩ := r
    have H0 := Lib.hid (two3_facts w p a v)
    obtain ⟨q0, q1, q2⟩ := cells3 H0.out.1.ab
    unfold AVal
    go_enter Try.func26, Try.ntmps26
    go_wp2_with fail
    refine (isBallot_any _ _).mono ?_
    rintro e w1 ⟨rfl, rfl⟩
    rw [hb]
    go_wp2_with fail
    refine (ansP p a v b 0 _).mono ?_
    rintro e w2 ⟨rfl, b2⟩
    have G2 := Lib.hid (And.intro (H0.out.2.1.below b2) (below_step H0.out.2.2 (b2.mono (Nat.le_refl _))))
    clear H0 b2 q0 q1 q2
    rw [← HR.out]
    obtain ⟨q0, q1, q2⟩ := cells3 G2.out.1.ab
    have z0 := G2.out.1.fz 0
    have z1 := G2.out.1.fz 1
    have z2 := G2.out.1.fz 2
    have G3 := Lib.hid (And.intro (G2.out.1.set3 p' a' v') (set3_below G2.out.2 (Nat.le_succ _) p' a' v'))
    simp only [Ac.val, AVal]
    go_wp2
    refine bodyPost_ret (res_iAPrep _ rfl rfl (cells3 G3.out.1.ab)) rfl ?_
    exact ⟨rfl, G3.out.2⟩
  · rw [Bool.not_eq_true] at hb
    have er : aPrep (p, a, v) b = ((0, 0, 0), false) := by simp [aPrep, hb]
    rw [er]
    clear er
    have H0 := Lib.hid (two3_facts w p a v)
    unfold AVal
    go_enter Try.func26, Try.ntmps26
    go_wp2_with fail
    refine (isBallot_any _ _).mono ?_
    rintro e w1 ⟨rfl, rfl⟩
    rw [hb]
    go_wp2
    refine bodyPost_ret (res_iAPrep _ rfl rfl (new3 (by simp))) rfl ?_
    exact ⟨rfl, H0.out.2.2⟩

set_option maxRecDepth 100000 in
set_option maxHeartbeats 1600000 in
theorem sAPrep_any (p a v b : Int) (w : World) :
    Calls Try.prog 119 #[AVal p a v, .int .i64 b] w (Said3 w (aPrep (p, a, v) b)) := by
  by_cases ho : okA p a v = true
  · by_cases hb : okB b = true
    · have hb' : decide (1 ≤ b ∧ b ≤ 20) = true := hb
      by_cases h : b ≤ p
      · have e1 : decide (b ≤ p) = true := by simpa using h
        rw [show aPrep (p, a, v) b = ((p, a, v), false) by simp [aPrep, Ac.ok, ho, hb, prepA, h]]
        have H0 := Lib.hid (two3_facts w p a v)
        unfold AVal
        go_enter Try.func119, Try.ntmps119
        go_wp2_with fail
        refine (spcValid_any _ _ _ _).mono ?_
        rintro e w1 ⟨rfl, b1⟩
        have G := Lib.hid (And.intro (H0.out.1.below b1) (And.intro (H0.out.2.1.below b1) (below_step H0.out.2.2 (b1.mono (Nat.le_refl _)))))
        clear H0 b1
        rw [ho]
        go_wp2_with fail
        refine (l6In_any _ _ _ _).mono ?_
        rintro e w1 ⟨rfl, rfl⟩
        rw [hb']
        obtain ⟨q0, q1, q2⟩ := cells3 G.out.2.1.ab
        obtain ⟨p0, p1, p2⟩ := cells3 G.out.1.ab
        have z0 := G.out.2.1.fz 0
        have z1 := G.out.2.1.fz 1
        have z2 := G.out.2.1.fz 2
        have G3 := Lib.hid (And.intro (G.out.2.1.set3 p a v) (set3_below G.out.2.2 (Nat.le_succ _) p a v))
        go_wp2
        refine bodyPost_ret (res_sAPrep _ rfl rfl (cells3 G3.out.1.ab)) rfl ?_
        exact ⟨rfl, G3.out.2⟩
      · have e1 : decide (b ≤ p) = false := by simpa using h
        rw [show aPrep (p, a, v) b = ((b, a, v), true) by simp [aPrep, Ac.ok, ho, hb, prepA, h]]
        have H0 := Lib.hid (two3_facts w p a v)
        unfold AVal
        go_enter Try.func119, Try.ntmps119
        go_wp2_with fail
        refine (spcValid_any _ _ _ _).mono ?_
        rintro e w1 ⟨rfl, b1⟩
        have G := Lib.hid (And.intro (H0.out.1.below b1) (And.intro (H0.out.2.1.below b1) (below_step H0.out.2.2 (b1.mono (Nat.le_refl _)))))
        clear H0 b1
        rw [ho]
        go_wp2_with fail
        refine (l6In_any _ _ _ _).mono ?_
        rintro e w1 ⟨rfl, rfl⟩
        rw [hb']
        obtain ⟨p0, p1, p2⟩ := cells3 G.out.1.ab
        have y0 := G.out.1.fz 0
        have G1 := Lib.hid (And.intro (G.out.1.set0 b) (And.intro (G.out.2.1.kept (Below.heap_setCell w1 ⟨w.heap.size, 0, none⟩ (.int .i64 b) (w.heap.size + 1) (by simp))) (G.out.2.2.setCell (p := ⟨w.heap.size, 0, none⟩) (Nat.le_refl _) (.int .i64 b))))
        obtain ⟨r0, r1, r2⟩ := cells3 G1.out.1.ab
        obtain ⟨q0, q1, q2⟩ := cells3 G1.out.2.1.ab
        have z0 := G1.out.2.1.fz 0
        have z1 := G1.out.2.1.fz 1
        have z2 := G1.out.2.1.fz 2
        have G3 := Lib.hid (And.intro (G1.out.2.1.set3 b a v) (set3_below G1.out.2.2 (Nat.le_succ _) b a v))
        go_wp2
        refine bodyPost_ret (res_sAPrep _ rfl rfl (cells3 G3.out.1.ab)) rfl ?_
        exact ⟨rfl, G3.out.2⟩
    · rw [Bool.not_eq_true] at hb
      have hb' : decide (1 ≤ b ∧ b ≤ 20) = false := hb
      rw [show aPrep (p, a, v) b = ((0, 0, 0), false) by simp [aPrep, hb]]
      have H0 := Lib.hid (two3_facts w p a v)
      unfold AVal
      go_enter Try.func119, Try.ntmps119
      go_wp2_with fail
      refine (spcValid_any _ _ _ _).mono ?_
      rintro e w1 ⟨rfl, b1⟩
      have G := Lib.hid (And.intro (H0.out.1.below b1) (And.intro (H0.out.2.1.below b1) (below_step H0.out.2.2 (b1.mono (Nat.le_refl _)))))
      clear H0 b1
      rw [ho]
      go_wp2_with fail
      refine (l6In_any _ _ _ _).mono ?_
      rintro e w1 ⟨rfl, rfl⟩
      rw [hb']
      obtain ⟨q0, q1, q2⟩ := cells3 G.out.2.1.ab
      have z0 := G.out.2.1.fz 0
      have z1 := G.out.2.1.fz 1
      have z2 := G.out.2.1.fz 2
      have G3 := Lib.hid (And.intro (G.out.2.1.set3 0 0 0) (set3_below G.out.2.2 (Nat.le_succ _) 0 0 0))
      go_wp2
      refine bodyPost_ret (res_sAPrep _ rfl rfl (cells3 G3.out.1.ab)) rfl ?_
      exact ⟨rfl, G3.out.2⟩
  · rw [Bool.not_eq_true] at ho
    rw [show aPrep (p, a, v) b = ((0, 0, 0), false) by simp [aPrep, Ac.ok, ho]]
    have H0 := Lib.hid (two3_facts w p a v)
    unfold AVal
    go_enter Try.func119, Try.ntmps119
    go_wp2_with fail
    refine (spcValid_any _ _ _ _).mono ?_
    rintro e w1 ⟨rfl, b1⟩
    have G := Lib.hid (And.intro (H0.out.1.below b1) (And.intro (H0.out.2.1.below b1) (below_step H0.out.2.2 (b1.mono (Nat.le_refl _)))))
    clear H0 b1
    rw [ho]
    obtain ⟨q0, q1, q2⟩ := cells3 G.out.2.1.ab
    have z0 := G.out.2.1.fz 0
    have z1 := G.out.2.1.fz 1
    have z2 := G.out.2.1.fz 2
    have G3 := Lib.hid (And.intro (G.out.2.1.set3 0 0 0) (set3_below G.out.2.2 (Nat.le_succ _) 0 0 0))
    go_wp2
    refine bodyPost_ret (res_sAPrep _ rfl rfl (cells3 G3.out.1.ab)) rfl ?_
    exact ⟨rfl, G3.out.2⟩

set_option maxRecDepth 100000 in
set_option maxHeartbeats 1600000 in
theorem sAAcc_any (p a v b c : Int) (w : World) :
    Calls Try.prog 122 #[AVal p a v, .int .i64 b, .int .i64 c] w (Said3 w (aAcc (p, a, v) b c)) := by
  by_cases ho : okA p a v = true
  · by_cases hb : okB b = true
    · have hb' : decide (1 ≤ b ∧ b ≤ 20) = true := hb
      by_cases hv : okV c = true
      · by_cases h : b < p
        · have e1 : decide (b < p) = true := by simpa using h
          rw [show aAcc (p, a, v) b c = ((p, a, v), false) by simp [aAcc, Ac.ok, ho, hb, hv, acceA, h]]
          have H0 := Lib.hid (two3_facts w p a v)
          unfold AVal
          go_enter Try.func122, Try.ntmps122
          go_wp2_with fail
          refine (spcValid_any _ _ _ _).mono ?_
          rintro e w1 ⟨rfl, b1⟩
          have G := Lib.hid (And.intro (H0.out.1.below b1) (And.intro (H0.out.2.1.below b1) (below_step H0.out.2.2 (b1.mono (Nat.le_refl _)))))
          clear H0 b1
          rw [ho]
          go_wp2_with fail
          refine (l6In_any _ _ _ _).mono ?_
          rintro e w1 ⟨rfl, rfl⟩
          rw [hb']
          go_wp2_with fail
          refine (l21Value_any _ _).mono ?_
          rintro e w1 ⟨rfl, rfl⟩
          rw [hv]
          obtain ⟨q0, q1, q2⟩ := cells3 G.out.2.1.ab
          obtain ⟨p0, p1, p2⟩ := cells3 G.out.1.ab
          have z0 := G.out.2.1.fz 0
          have z1 := G.out.2.1.fz 1
          have z2 := G.out.2.1.fz 2
          have G3 := Lib.hid (And.intro (G.out.2.1.set3 p a v) (set3_below G.out.2.2 (Nat.le_succ _) p a v))
          go_wp2
          refine bodyPost_ret (res_sAAcc _ rfl rfl (cells3 G3.out.1.ab)) rfl ?_
          exact ⟨rfl, G3.out.2⟩
        · have e1 : decide (b < p) = false := by simpa using h
          rw [show aAcc (p, a, v) b c = ((b, b, c), true) by simp [aAcc, Ac.ok, ho, hb, hv, acceA, h]]
          have H0 := Lib.hid (two3_facts w p a v)
          unfold AVal
          go_enter Try.func122, Try.ntmps122
          go_wp2_with fail
          refine (spcValid_any _ _ _ _).mono ?_
          rintro e w1 ⟨rfl, b1⟩
          have G := Lib.hid (And.intro (H0.out.1.below b1) (And.intro (H0.out.2.1.below b1) (below_step H0.out.2.2 (b1.mono (Nat.le_refl _)))))
          clear H0 b1
          rw [ho]
          go_wp2_with fail
          refine (l6In_any _ _ _ _).mono ?_
          rintro e w1 ⟨rfl, rfl⟩
          rw [hb']
          go_wp2_with fail
          refine (l21Value_any _ _).mono ?_
          rintro e w1 ⟨rfl, rfl⟩
          rw [hv]
          obtain ⟨q0, q1, q2⟩ := cells3 G.out.2.1.ab
          obtain ⟨p0, p1, p2⟩ := cells3 G.out.1.ab
          have z0 := G.out.2.1.fz 0
          have z1 := G.out.2.1.fz 1
          have z2 := G.out.2.1.fz 2
          have G3 := Lib.hid (And.intro (G.out.2.1.set3 b b c) (set3_below G.out.2.2 (Nat.le_succ _) b b c))
          go_wp2
          refine bodyPost_ret (res_sAAcc _ rfl rfl (cells3 G3.out.1.ab)) rfl ?_
          exact ⟨rfl, G3.out.2⟩
      · rw [Bool.not_eq_true] at hv
        rw [show aAcc (p, a, v) b c = ((0, 0, 0), false) by simp [aAcc, hv]]
        have H0 := Lib.hid (two3_facts w p a v)
        unfold AVal
        go_enter Try.func122, Try.ntmps122
        go_wp2_with fail
        refine (spcValid_any _ _ _ _).mono ?_
        rintro e w1 ⟨rfl, b1⟩
        have G := Lib.hid (And.intro (H0.out.1.below b1) (And.intro (H0.out.2.1.below b1) (below_step H0.out.2.2 (b1.mono (Nat.le_refl _)))))
        clear H0 b1
        rw [ho]
        go_wp2_with fail
        refine (l6In_any _ _ _ _).mono ?_
        rintro e w1 ⟨rfl, rfl⟩
        rw [hb']
        go_wp2_with fail
        refine (l21Value_any _ _).mono ?_
        rintro e w1 ⟨rfl, rfl⟩
        rw [hv]
        obtain ⟨q0, q1, q2⟩ := cells3 G.out.2.1.ab
        have z0 := G.out.2.1.fz 0
        have z1 := G.out.2.1.fz 1
        have z2 := G.out.2.1.fz 2
        have G3 := Lib.hid (And.intro (G.out.2.1.set3 0 0 0) (set3_below G.out.2.2 (Nat.le_succ _) 0 0 0))
        go_wp2
        refine bodyPost_ret (res_sAAcc _ rfl rfl (cells3 G3.out.1.ab)) rfl ?_
        exact ⟨rfl, G3.out.2⟩
    · rw [Bool.not_eq_true] at hb
      have hb' : decide (1 ≤ b ∧ b ≤ 20) = false := hb
      rw [show aAcc (p, a, v) b c = ((0, 0, 0), false) by simp [aAcc, hb]]
      have H0 := Lib.hid (two3_facts w p a v)
      unfold AVal
      go_enter Try.func122, Try.ntmps122
      go_wp2_with fail
      refine (spcValid_any _ _ _ _).mono ?_
      rintro e w1 ⟨rfl, b1⟩
      have G := Lib.hid (And.intro (H0.out.1.below b1) (And.intro (H0.out.2.1.below b1) (below_step H0.out.2.2 (b1.mono (Nat.le_refl _)))))
      clear H0 b1
      rw [ho]
      go_wp2_with fail
      refine (l6In_any _ _ _ _).mono ?_
      rintro e w1 ⟨rfl, rfl⟩
      rw [hb']
      obtain ⟨q0, q1, q2⟩ := cells3 G.out.2.1.ab
      have z0 := G.out.2.1.fz 0
      have z1 := G.out.2.1.fz 1
      have z2 := G.out.2.1.fz 2
      have G3 := Lib.hid (And.intro (G.out.2.1.set3 0 0 0) (set3_below G.out.2.2 (Nat.le_succ _) 0 0 0))
      go_wp2
      refine bodyPost_ret (res_sAAcc _ rfl rfl (cells3 G3.out.1.ab)) rfl ?_
      exact ⟨rfl, G3.out.2⟩
  · rw [Bool.not_eq_true] at ho
    rw [show aAcc (p, a, v) b c = ((0, 0, 0), false) by simp [aAcc, Ac.ok, ho]]
    have H0 := Lib.hid (two3_facts w p a v)
    unfold AVal
    go_enter Try.func122, Try.ntmps122
    go_wp2_with fail
    refine (spcValid_any _ _ _ _).mono ?_
    rintro e w1 ⟨rfl, b1⟩
    have G := Lib.hid (And.intro (H0.out.1.below b1) (And.intro (H0.out.2.1.below b1) (below_step H0.out.2.2 (b1.mono (Nat.le_refl _)))))
    clear H0 b1
    rw [ho]
    obtain ⟨q0, q1, q2⟩ := cells3 G.out.2.1.ab
    have z0 := G.out.2.1.fz 0
    have z1 := G.out.2.1.fz 1
    have z2 := G.out.2.1.fz 2
    have G3 := Lib.hid (And.intro (G.out.2.1.set3 0 0 0) (set3_below G.out.2.2 (Nat.le_succ _) 0 0 0))
    go_wp2
    refine bodyPost_ret (res_sAAcc _ rfl rfl (cells3 G3.out.1.ab)) rfl ?_
    exact ⟨rfl, G3.out.2⟩

end Go.Proofs.Ytbkdhjmfphhhoaa

/- Lists of acceptors, and the choice of a value, the program's and the model's, by their contracts. -/
namespace Go.Proofs.Ytbkdhjmfphhhoaa
open Go.RowKit

/-- The cells of a list of states. -/
def acs (l : List Ac) : List Value := l.flatMap fun x => [.int .i64 x.1, .int .i64 x.2.1, .int .i64 x.2.2]
theorem acs_nil : acs [] = [] := rfl
theorem acs_cons (x : Ac) (l : List Ac) : acs (x :: l) = .int .i64 x.1 :: .int .i64 x.2.1 :: .int .i64 x.2.2 :: acs l := rfl
theorem acs_app (l m : List Ac) : acs (l ++ m) = acs l ++ acs m := by simp [acs]
theorem acs_len (l : List Ac) : (acs l).length = l.length * 3 := by
  induction l with
  | nil => rfl
  | cons x l ih => rw [acs_cons]; simp [ih]; omega
theorem acs_at : ∀ (l : List Ac) (k : Nat) (x : Ac), l[k]? = some x → (acs l)[k * 3]? = some (.int .i64 x.1) ∧ (acs l)[k * 3 + 1]? = some (.int .i64 x.2.1) ∧ (acs l)[k * 3 + 2]? = some (.int .i64 x.2.2)
  | [], k, x, h => by simp at h
  | y :: l, 0, x, h => by simp at h; subst h; simp [acs_cons]
  | y :: l, k + 1, x, h => by
    have := acs_at l k x (by simpa using h)
    rw [acs_cons, show (k + 1) * 3 = k * 3 + 1 + 1 + 1 by omega]
    simpa using this
/-- The slice at A reads as the list l of states. -/
def AL (w : World) (A : Option Addr) (l : List Ac) : Prop :=
  l = [] ∨ ∃ b off, A = some ⟨b, off, none⟩ ∧ b < w.heap.size ∧ ∀ j u, (acs l)[j]? = some u → w.cell? ⟨b, off + j, none⟩ = some u
theorem AL.at_ {w : World} {A : Option Addr} {l : List Ac} {k : Nat} (h : AL w A l) (hk : k < l.length) :
    ∃ b off x, A = some ⟨b, off, none⟩ ∧ l[k]? = some x ∧ w.cell? ⟨b, off + k * 3, none⟩ = some (.int .i64 x.1) ∧ w.cell? ⟨b, off + k * 3 + 1, none⟩ = some (.int .i64 x.2.1) ∧ w.cell? ⟨b, off + k * 3 + 2, none⟩ = some (.int .i64 x.2.2) := by
  rcases h with rfl | ⟨b, off, rfl, _, hc⟩
  · simp at hk
  · obtain ⟨h0, h1, h2⟩ := acs_at l k l[k] (List.getElem?_eq_getElem hk)
    exact ⟨b, off, l[k], rfl, List.getElem?_eq_getElem hk, hc _ _ h0, hc _ _ h1, hc _ _ h2⟩
theorem AL.keep {w w' : World} {A : Option Addr} {l : List Ac} (h : AL w A l) (hs : w.heap.size ≤ w'.heap.size) (hb : ∀ b off, A = some ⟨b, off, none⟩ → b < w.heap.size → w'.heap[b]? = w.heap[b]?) : AL w' A l := by
  rcases h with rfl | ⟨b, off, rfl, hlt, hc⟩
  · exact .inl rfl
  · exact .inr ⟨b, off, rfl, Nat.lt_of_lt_of_le hlt hs, fun j x hx => (World.cell?_of_block (a := ⟨b, off + j, none⟩) (hb b off rfl hlt)).trans (hc j x hx)⟩
theorem AL.below {w w' : World} {A : Option Addr} {l : List Ac} (h : AL w A l) (hb : Below w.heap.size w w') : AL w' A l := h.keep hb.size fun b _ _ hlt => hb.block b hlt

/-- The highest ballot so far and its value. -/
def st1 (s : Int × Int) (x : Ac) : Int × Int := if s.1 < x.2.1 then (x.2.1, x.2.2) else s
def st (l : List Ac) (own : Int) : Int × Int := l.foldl st1 (0, own)
def allA (l : List Ac) : Bool := l.all Ac.ok
def chv (l : List Ac) (own : Int) : Int × Bool := if allA l && okV own then ((st l own).2, true) else (0, false)
theorem st_take {l : List Ac} {own : Int} {k : Nat} {x : Ac} (h : l[k]? = some x) : st (l.take (k + 1)) own = st1 (st (l.take k) own) x := by
  rw [List.take_add_one, h]
  simp [st]
theorem allA_take {l : List Ac} {k : Nat} {x : Ac} (h : l[k]? = some x) : allA (l.take (k + 1)) = (allA (l.take k) && x.ok) := by
  rw [List.take_add_one, h]
  simp [allA]
theorem allA_no {l : List Ac} {k : Nat} {x : Ac} (h : l[k]? = some x) (hx : x.ok = false) : allA l = false := by
  rw [Bool.eq_false_iff]
  intro ha
  have := List.all_eq_true.1 ha x (List.mem_of_getElem? h)
  rw [hx] at this
  cases this

theorem st_all {l : List Ac} {own : Int} {k : Nat} (h : k ≤ l.length) (h2 : ¬ k < l.length) : st (l.take k) own = st l own := by rw [List.take_of_length_le (by omega)]
set_option maxRecDepth 100000 in
set_option maxHeartbeats 1600000 in
theorem l21Choose_any (A : Option Addr) (c : Nat) (l : List Ac) (own : Int) (w : World) (ha : AL w A l) (hl : l.length ≤ 1048577) :
    Calls Try.prog 121 #[.slice A l.length c, .int .i64 own] w fun e w' => e = .returned (.int .i64 (st l own).2) ∧ w = w' := by
  obtain ⟨r, hr⟩ : ∃ r, r = (st l own).2 := ⟨_, rfl⟩
  rw [← hr]
  have HR := Lib.hid hr
  clear hr
  go_enter Try.func121, Try.ntmps121
  go_wp2
  go_loopw [1, 5, 6] (fun o h i wr => ∃ k : Nat, k ≤ l.length ∧ i = .int .i64 k ∧ h = .int .i64 (st (l.take k) own).1 ∧ o = .int .i64 (st (l.take k) own).2 ∧ w = wr) (fun _ _ i _ => l.length - (intOf i).toNat)
  case atStart => exact ⟨0, Nat.zero_le _, rfl, rfl, rfl, rfl⟩
  case round =>
    obtain ⟨k, hk, rfl, rfl, rfl, rfl⟩ := hrel
    by_cases hlt : k < l.length
    · obtain ⟨b, off, x, rfl, hx, c0, c1, c2⟩ := ha.at_ hlt
      have HT := Lib.hid (st_take (own := own) hx)
      have hki : (0 : Int) ≤ (k : Int) := by omega
      have hki2 : (k : Int) < (l.length : Int) := by omega
      clear hx
      obtain ⟨h, hh⟩ : ∃ h, h = (st (l.take k) own).1 := ⟨_, rfl⟩
      obtain ⟨o, ho⟩ : ∃ o, o = (st (l.take k) own).2 := ⟨_, rfl⟩
      rw [← hh, ← ho]
      have HS := Lib.hid (show st (l.take k) own = (h, o) by rw [hh, ho])
      clear hh ho
      by_cases hc : h < x.2.1
      · have E := Lib.hid (show st (l.take (k + 1)) own = (x.2.1, x.2.2) by rw [HT.out, HS.out, st1, if_pos hc])
        clear HT HS
        go_wp2
        go_roundw
        case rel => exact ⟨k + 1, by omega, by go_num, by rw [E.out], by rw [E.out], trivial⟩
        case measure => simp [intOf]; omega
      · have E := Lib.hid (show st (l.take (k + 1)) own = (h, o) by rw [HT.out, HS.out, st1, if_neg hc])
        clear HT HS
        go_wp2
        go_roundw
        case rel => exact ⟨k + 1, by omega, by go_num, by rw [E.out], by rw [E.out], trivial⟩
        case measure => simp [intOf]; omega
    · have E := Lib.hid (show (st (l.take k) own).2 = r by rw [st_all hk hlt, HR.out])
      have hkl : k = l.length := by omega
      rw [E.out]
      generalize (st (l.take k) own).1 = h at *
      clear HR E
      subst hkl
      go_wp2
      go_ret
      exact ⟨rfl, rfl⟩

/-- What the choice of a value hands back. -/
def Chose (w : World) (r : Int × Bool) (e : Ending) (w' : World) : Prop := e = .returned (.tuple #[.int .i64 r.1, .bool r.2]) ∧ Below w.heap.size w w'
theorem allA_full {l : List Ac} {k : Nat} (h : ¬ k < l.length) (ha : allA (l.take k) = true) : allA l = true := by rwa [List.take_of_length_le (by omega)] at ha
theorem chv_bad {l : List Ac} {own : Int} {k : Nat} {x : Ac} (h : l[k]? = some x) (hx : x.ok = false) : chv l own = (0, false) := by simp [chv, allA_no h hx]
theorem chv_own {l : List Ac} {own : Int} (h : okV own = false) : chv l own = (0, false) := by simp [chv, h]
theorem chv_good {l : List Ac} {own : Int} (h : okV own = true) (ha : allA l = true) : chv l own = ((st l own).2, true) := by simp [chv, h, ha]

set_option maxRecDepth 100000 in
set_option maxHeartbeats 3200000 in
theorem iChoose_any (A : Option Addr) (c : Nat) (l : List Ac) (own : Int) (w : World) (ha : AL w A l) (hl : l.length ≤ 1048577) :
    Calls Try.prog 27 #[.slice A l.length c, .int .i64 own] w (Chose w (chv l own)) := by
  obtain ⟨⟨r, t⟩, hr⟩ : ∃ r, r = chv l own := ⟨_, rfl⟩
  rw [← hr]
  by_cases hv : okV own = true
  · have HR := Lib.hid hr
    clear hr
    go_enter Try.func27, Try.ntmps27
    go_wp2_with fail
    refine (isValue_any _ _).mono ?_
    rintro e w1 ⟨rfl, rfl⟩
    rw [hv]
    go_wp2
    go_loopw [6, 7, 16] (fun h o i wr => ∃ k : Nat, k ≤ l.length ∧ i = .int .i64 k ∧ h = .int .i64 (st (l.take k) own).1 ∧ o = .int .i64 (st (l.take k) own).2 ∧ Hid (allA (l.take k) = true) ∧ Below w.heap.size w wr) (fun _ _ i _ => l.length - (intOf i).toNat)
    case atStart => exact ⟨0, Nat.zero_le _, rfl, rfl, rfl, (by show allA _ = true; rfl), Below.refl _ w⟩
    case round =>
      obtain ⟨k, hk, rfl, rfl, rfl, hal, hbel⟩ := hrel
      by_cases hlt : k < l.length
      · obtain ⟨b, off, x, rfl, hx, c0, c1, c2⟩ := (ha.below hbel).at_ hlt
        have HT := Lib.hid (And.intro (allA_take hx) (st_take (own := own) hx))
        have HX := Lib.hid hx
        have hki : (0 : Int) ≤ (k : Int) := by omega
        have hki2 : (k : Int) < (l.length : Int) := by omega
        clear hx
        obtain ⟨x0, x1, x2⟩ := x
        obtain ⟨h, hh⟩ : ∃ h, h = (st (l.take k) own).1 := ⟨_, rfl⟩
        obtain ⟨o, ho⟩ : ∃ o, o = (st (l.take k) own).2 := ⟨_, rfl⟩
        rw [← hh, ← ho]
        have HS := Lib.hid (show st (l.take k) own = (h, o) by rw [hh, ho])
        clear hh ho
        go_wp2_with fail
        refine (impValid_any x0 x1 x2 _).mono ?_
        rintro e w2 ⟨rfl, b2⟩
        have N := Lib.hid ((AF3.new wr x0 x1 x2 35).below b2)
        have HB := Lib.hid (below_step (hbel.alloc hbel.size _) b2)
        clear hbel b2 c0 c1 c2
        by_cases hok : okA x0 x1 x2 = true
        · have EA := Lib.hid (show allA (l.take (k + 1)) = true by rw [HT.out.1, hal.out]; simpa [Ac.ok] using hok)
          rw [hok]
          obtain ⟨c0, c1, c2⟩ := cells3 N.out.ab
          by_cases hc : h < x1
          · have E := Lib.hid (show st (l.take (k + 1)) own = (x1, x2) by rw [HT.out.2, HS.out, st1, if_pos hc])
            clear HT HS HX hal
            go_wp2
            go_quiet (fail)
            go_wp2
            go_roundw
            case rel => exact ⟨k + 1, by omega, by go_num, by rw [E.out], by rw [E.out], EA, below_drewN HB.out _⟩
            case measure => simp [intOf]; omega
          · have E := Lib.hid (show st (l.take (k + 1)) own = (h, o) by rw [HT.out.2, HS.out, st1, if_neg hc])
            clear HT HS HX hal
            go_wp2
            go_roundw
            case rel => exact ⟨k + 1, by omega, by go_num, by rw [E.out], by rw [E.out], EA, HB.out⟩
            case measure => simp [intOf]; omega
        · rw [Bool.not_eq_true] at hok
          have E := Lib.hid (HR.out.trans (chv_bad (own := own) HX.out (by simpa [Ac.ok] using hok)))
          rw [hok]
          have e1 := E.out
          injection e1 with e1 e2
          subst e1; subst e2
          clear HT HX hal HR E HS
          go_wp2
          go_ret2
          exact ⟨rfl, HB.out⟩
      · have hkl : k = l.length := by omega
        have hA := Lib.hid (allA_full hlt hal.out)
        have E := Lib.hid (HR.out.trans (chv_good hv hA.out))
        have e1 := E.out
        injection e1 with e1 e2
        subst e2
        rw [st_all hk hlt, ← e1]
        generalize (st l own).1 = h at *
        clear hal ha e1 HR E hA
        subst hkl
        go_wp2
        go_ret2
        exact ⟨rfl, hbel⟩
  · rw [Bool.not_eq_true] at hv
    have e1 := hr.trans (chv_own (l := l) hv)
    injection e1 with e1 e2
    subst e1; subst e2
    clear hr
    go_enter Try.func27, Try.ntmps27
    go_wp2_with fail
    refine (isValue_any _ _).mono ?_
    rintro e w1 ⟨rfl, rfl⟩
    rw [hv]
    clear ha
    go_wp2
    go_ret2
    exact ⟨rfl, Below.refl _ w⟩
end Go.Proofs.Ytbkdhjmfphhhoaa

/- What the choice of a value is (plain). -/
namespace Go.Proofs.Ytbkdhjmfphhhoaa
open Go.RowKit

theorem st_snoc (l : List Ac) (x : Ac) (own : Int) : st (l ++ [x]) own = st1 (st l own) x := by simp [st]
/-- The highest ballot stands at the first that has it, and bounds all. -/
structure Best (l : List Ac) (own : Int) (h o : Int) : Prop where
  pos : 0 ≤ h
  zero : h = 0 → o = own
  top : ∀ x ∈ l, x.2.1 ≤ h
  first : 0 < h → ∃ (k : Nat) (x : Ac), l[k]? = some x ∧ x.2.1 = h ∧ x.2.2 = o ∧ ∀ (j : Nat) (y : Ac), j < k → l[j]? = some y → y.2.1 < h
theorem best_nil (own : Int) : Best [] own 0 own := ⟨by omega, fun _ => rfl, fun x hx => absurd hx (List.not_mem_nil), fun h => by omega⟩
theorem best_snoc {l : List Ac} {own h o : Int} (b : Best l own h o) (x : Ac) : Best (l ++ [x]) own (st1 (h, o) x).1 (st1 (h, o) x).2 := by
  unfold st1
  have hp := b.pos
  by_cases hx : h < x.2.1
  · simp only [hx, if_true]
    refine ⟨by omega, fun e => by omega, fun y hy => ?_, fun _ => ⟨l.length, x, by simp, rfl, rfl, fun j y hj hy => ?_⟩⟩
    · rcases List.mem_append.1 hy with h1 | h1
      · have := b.top y h1; omega
      · simp at h1; subst h1; exact Int.le_refl _
    · rw [List.getElem?_append_left hj] at hy
      have := b.top y (List.mem_of_getElem? hy)
      omega
  · simp only [hx, if_false]
    refine ⟨hp, b.zero, fun y hy => ?_, fun h0 => ?_⟩
    · rcases List.mem_append.1 hy with h1 | h1
      · exact b.top y h1
      · simp at h1; subst h1; omega
    · obtain ⟨k, y, hk, e1, e2, e3⟩ := b.first h0
      have hkl : k < l.length := (List.getElem?_eq_some_iff.1 hk).1
      exact ⟨k, y, by rw [List.getElem?_append_left hkl]; exact hk, e1, e2, fun j z hj hz => e3 j z hj (by rw [List.getElem?_append_left (by omega)] at hz; exact hz)⟩
theorem best_st (l : List Ac) (own : Int) : Best l own (st l own).1 (st l own).2 := by
  have key : ∀ n, n ≤ l.length → Best (l.take n) own (st (l.take n) own).1 (st (l.take n) own).2 := by
    intro n
    induction n with
    | zero => intro _; exact best_nil own
    | succ n ih =>
      intro hn
      have hx : l[n]? = some l[n] := List.getElem?_eq_getElem (by omega)
      rw [List.take_add_one, hx]
      have := best_snoc (ih (by omega)) l[n]
      rw [show ((st (l.take n) own).1, (st (l.take n) own).2) = st (l.take n) own from rfl, ← st_snoc] at this
      exact this
  have := key l.length (Nat.le_refl _)
  rwa [List.take_length] at this
theorem st_max {h o : Int} (x : Ac) : (st1 (h, o) x).1 = max h x.2.1 := by
  unfold st1
  by_cases hx : h < x.2.1
  · simp only [hx, if_true]; omega
  · simp only [hx, if_false]; omega
theorem allA_mem {l : List Ac} (h : allA l = true) {x : Ac} (hx : x ∈ l) : x.ok = true := List.all_eq_true.1 h x hx
theorem best_le {l : List Ac} {own h o : Int} (b : Best l own h o) (ha : allA l = true) : h ≤ 20 := by
  rcases Int.lt_or_le 0 h with h0 | h0
  · obtain ⟨k, x, hk, e1, _⟩ := b.first h0
    have := allA_mem ha (List.mem_of_getElem? hk)
    simp [Ac.ok, okA] at this
    omega
  · omega
theorem chv_yes {l : List Ac} {own r : Int} (h : chv l own = (r, true)) : allA l = true ∧ okV own = true ∧ r = (st l own).2 := by
  unfold chv at h
  by_cases hc : (allA l && okV own) = true
  · rw [if_pos hc] at h
    simp at hc
    injection h with h _
    exact ⟨hc.1, hc.2, h.symm⟩
  · rw [if_neg hc] at h
    injection h with _ h
    cases h
theorem chv_at {l : List Ac} {own : Int} (h1 : allA l = true) (h2 : okV own = true) : chv l own = ((st l own).2, true) := by simp [chv, h1, h2]
/-- A reply that is added at the end and does not stand above. -/
theorem chv_low {l : List Ac} {own r : Int} (h : chv l own = (r, true)) {x : Ac} (hx : x.ok = true) (hl : ¬ (st l own).1 < x.2.1) : chv (l ++ [x]) own = (r, true) := by
  obtain ⟨h1, h2, h3⟩ := chv_yes h
  rw [chv_at (by simp [allA] at *; exact ⟨h1, hx⟩) h2, st_snoc, st1, if_neg hl, h3]
theorem chv_ahead {l : List Ac} {own r : Int} (h : chv l own = (r, true)) : chv ((3, 0, 0) :: l) own = (r, true) := by
  obtain ⟨h1, h2, h3⟩ := chv_yes h
  rw [chv_at (by simp [allA] at *; exact ⟨by decide, h1⟩) h2, h3]
  rfl
/-- No positive ballot stands twice, from the place n on. -/
def Once (l : List Ac) (n : Nat) : Prop := ∀ (j k : Nat) (x y : Ac), n ≤ j → k < j → l[k]? = some x → l[j]? = some y → x.2.1 = y.2.1 → ¬ 0 < y.2.1
theorem once_same {l : List Ac} (ho : Once l 0) {j k : Nat} {x y : Ac} (hj : l[j]? = some y) (hk : l[k]? = some x) (e : x.2.1 = y.2.1) (hp : 0 < y.2.1) : x = y := by
  rcases Nat.lt_trichotomy k j with h | h | h
  · exact absurd hp (ho j k x y (Nat.zero_le _) h hk hj e)
  · subst h; rw [hj] at hk; exact (Option.some.inj hk).symm
  · exact absurd (e ▸ hp) (ho k j y x (Nat.zero_le _) h hj hk e.symm)
theorem chv_rev {l : List Ac} {own r : Int} (h : chv l own = (r, true)) (ho : Once l 0) : chv l.reverse own = (r, true) := by
  obtain ⟨h1, h2, h3⟩ := chv_yes h
  have h1' : allA l.reverse = true := by simp [allA] at *; exact h1
  rw [chv_at h1' h2, h3]
  have b := best_st l own
  have b' := best_st l.reverse own
  have e : (st l.reverse own).1 = (st l own).1 := by
    have le1 : (st l.reverse own).1 ≤ (st l own).1 := by
      rcases Int.lt_or_le 0 (st l.reverse own).1 with q | q
      · obtain ⟨k, x, hk, e1, _⟩ := b'.first q
        have := b.top x (by simpa using List.mem_of_getElem? hk)
        omega
      · have := b.pos; omega
    have le2 : (st l own).1 ≤ (st l.reverse own).1 := by
      rcases Int.lt_or_le 0 (st l own).1 with q | q
      · obtain ⟨k, x, hk, e1, _⟩ := b.first q
        have := b'.top x (by simpa using List.mem_of_getElem? hk)
        omega
      · have := b'.pos; omega
    omega
  congr 1
  rcases Int.lt_or_le 0 (st l own).1 with q | q
  · obtain ⟨k, x, hk, e1, e2, _⟩ := b.first q
    obtain ⟨k', x', hk', e1', e2', _⟩ := b'.first (by omega)
    obtain ⟨j, hj⟩ := List.mem_iff_getElem?.1 (show x' ∈ l by simpa using List.mem_of_getElem? hk')
    have := once_same ho hk hj (by omega) (by omega)
    subst this
    omega
  · have z := b.pos
    rw [b.zero (by omega), b'.zero (by omega)]
/-- The first that has the highest ballot has the value. -/
theorem best_at {l : List Ac} {own h o : Int} (b : Best l own h o) (h0 : 0 < h) {k : Nat} {x : Ac} (hx : l[k]? = some x) (e : x.2.1 = h) (hn : ∀ (j : Nat) (y : Ac), j < k → l[j]? = some y → y.2.1 ≠ h) : x.2.2 = o := by
  obtain ⟨k', x', hk', e1, e2, e3⟩ := b.first h0
  rcases Nat.lt_trichotomy k k' with q | q | q
  · have := e3 k x q hx; omega
  · subst q; rw [hx] at hk'; injection hk' with hk'; subst hk'; exact e2
  · exact absurd e1 (hn k' x' q hk')
theorem best_some {l : List Ac} {own h o : Int} (b : Best l own h o) (h0 : 0 < h) : ¬ ∀ (j : Nat) (y : Ac), j < l.length → l[j]? = some y → y.2.1 ≠ h := by
  intro hn
  obtain ⟨k', x', hk', e1, _⟩ := b.first h0
  exact hn k' x' (List.getElem?_eq_some_iff.1 hk').1 hk' e1
end Go.Proofs.Ytbkdhjmfphhhoaa

/- Acceptors drawn, by their contracts. -/
namespace Go.Proofs.Ytbkdhjmfphhhoaa
open Go.RowKit

/-- While a state is drawn: the reader, the place for the result, the state so far. -/
def D3 (w : World) (g B q : Nat) (x a v : Int) (wr : World) : Prop :=
  g < w.heap.size ∧ w.heap.size < B ∧ AF3 wr w.heap.size 0 0 0 ∧ AF3 wr B x a v ∧ RdX wr g q ∧ w.grownBy wr (some g)
theorem grown_set {w wr : World} {g b off : Nat} (h : w.grownBy wr (some g)) (hb : w.heap.size ≤ b) (u : Value) : w.grownBy (wr.setCell ⟨b, off, none⟩ u) (some g) :=
  ⟨h.os, h.tape, h.output, by simpa [World.setCell] using h.size, fun i hi hne => (Below.heap_setCell wr ⟨b, off, none⟩ u i (by simp; omega)).trans (h.block i hi hne)⟩
theorem RdX.set {wr : World} {g q b off : Nat} (h : RdX wr g q) (hb : g < b) (u : Value) : RdX (wr.setCell ⟨b, off, none⟩ u) g q :=
  h.grown (row := some b) ⟨rfl, rfl, rfl, by simp [World.setCell], fun i hi hne => Below.heap_setCell wr ⟨b, off, none⟩ u i (by simp at hne; simpa using hne)⟩ (fun k hk => by injection hk with hk; omega)
section
variable {w wr wr' : World} {g B q : Nat} {x a v : Int}
theorem AF3.grown (h : AF3 wr B x a v) (hg : wr.grownBy wr' (some g)) (hne : g ≠ B) : AF3 wr' B x a v := h.kept (hg.block B h.lt (by simp; omega))
theorem D3.pick (h : D3 w g B q x a v wr) {q' : Nat} (hr : RdX wr' g q') (hg : wr.grownBy wr' (some g)) : D3 w g B q' x a v wr' := by
  obtain ⟨h1, h2, h3, h4, h5, h6⟩ := h
  exact ⟨h1, h2, h3.grown hg (by omega), h4.grown hg (by omega), hr, grown_trans h6 hg⟩
theorem D3.set1 (h : D3 w g B q x a v wr) (y : Int) : D3 w g B q x y v (wr.setCell ⟨B, 1, none⟩ (.int .i64 y)) := by
  obtain ⟨h1, h2, h3, h4, h5, h6⟩ := h
  exact ⟨h1, h2, h3.kept (Below.heap_setCell wr ⟨B, 1, none⟩ _ _ (by simp; omega)), h4.set1 y, h5.set (by omega) _, grown_set h6 (by omega) _⟩
theorem D3.set2 (h : D3 w g B q x a v wr) (y : Int) : D3 w g B q x a y (wr.setCell ⟨B, 2, none⟩ (.int .i64 y)) := by
  obtain ⟨h1, h2, h3, h4, h5, h6⟩ := h
  exact ⟨h1, h2, h3.kept (Below.heap_setCell wr ⟨B, 2, none⟩ _ _ (by simp; omega)), h4.set2 y, h5.set (by omega) _, grown_set h6 (by omega) _⟩
theorem D3.fin (h : D3 w g B q x a v wr) : AF3 (set3 wr w.heap.size x a v) w.heap.size x a v ∧ RdX (set3 wr w.heap.size x a v) g q ∧ w.grownBy (set3 wr w.heap.size x a v) (some g) := by
  obtain ⟨h1, h2, h3, h4, h5, h6⟩ := h
  exact ⟨h3.set3 x a v, ((h5.set h1 _).set h1 _).set h1 _, grown_set (grown_set (grown_set h6 (Nat.le_refl _) _) (Nat.le_refl _) _) (Nat.le_refl _) _⟩
theorem D3.cs (h : D3 w g B q x a v wr) : wr.cell? ⟨B, 0, none⟩ = some (.int .i64 x) ∧ wr.cell? ⟨B, 1, none⟩ = some (.int .i64 a) ∧ wr.cell? ⟨B, 2, none⟩ = some (.int .i64 v) := cells3 h.2.2.2.1.ab
theorem D3.cz (h : D3 w g B q x a v wr) : wr.cell? ⟨w.heap.size, 0, none⟩ = some (.int .i64 0) ∧ wr.cell? ⟨w.heap.size, 1, none⟩ = some (.int .i64 0) ∧ wr.cell? ⟨w.heap.size, 2, none⟩ = some (.int .i64 0) := cells3 h.2.2.1.ab
end
/-- What the draw of a state hands back. -/
def Drawn3 (w : World) (g p : Nat) (e : Ending) (w' : World) : Prop :=
  ∃ (P a v : Int) (q : Nat), 0 ≤ P ∧ P ≤ 7 ∧ 0 ≤ a ∧ a ≤ 21 ∧ 0 ≤ v ∧ v ≤ 9 ∧ e = .returned (AVal P a v) ∧ RdX w' g q ∧ q ≤ p + 6 ∧ w.grownBy w' (some g)
theorem D3.start {w w1 : World} {g p : Nat} (h : RdX w g p) (hr : RdX w1 g (p + 1)) (hg : (w.alloc (.cells #[.int .i64 0, .int .i64 0, .int .i64 0] 35)).grownBy w1 (some g)) (x : Int) :
    D3 w g w1.heap.size (p + 1) x 0 0 (w1.alloc (.cells #[.int .i64 x, .int .i64 0, .int .i64 0] 35)) := by
  have hlt := h.lt
  have hs := hg.size
  rw [World.size_alloc] at hs
  have hbm : Below w1.heap.size w1 (w1.alloc (.cells #[.int .i64 x, .int .i64 0, .int .i64 0] 35)) := (Below.refl _ w1).alloc (Nat.le_refl _) _
  refine ⟨hlt, by omega, ?_, AF3.new _ _ _ _ _, hr.below hbm, grown_below (grown_trans (World.grownBy_alloc w _ (some g)) hg) hbm⟩
  exact ((AF3.new w 0 0 0 _).grown hg (by omega)).below hbm
theorem results_one {fn : Func} {p : Tmp} {ty : TypeId} (h : fn.results = #[.cell p ty]) (tmps : Array Value) (P : Program) (w : World) :
    (results fn tmps).run P w = ((asAddr (tmps.getD p undef)).run P w).andThen fun a w₁ => (loadVar ty a).run P w₁ := by
  simp only [results, h]
  simp [Sem.run_bind, Result.andThen]
theorem res_l92 {W : World} {b : Nat} {p a v : Int} (tmps : Array Value) (h2 : tmps.getD 2 undef = .pointer (some ⟨b, 0, none⟩))
    (h : W.cell? ⟨b, 0, none⟩ = some (.int .i64 p) ∧ W.cell? ⟨b, 1, none⟩ = some (.int .i64 a) ∧ W.cell? ⟨b, 2, none⟩ = some (.int .i64 v)) :
    (results Try.f117 tmps).run Try.prog W = .ok (AVal p a v) W := by
  obtain ⟨q0, q1, q2⟩ := h
  rw [results_one rfl, h2]
  go_simp
  rfl

set_option maxRecDepth 100000 in
set_option maxHeartbeats 3200000 in
theorem l92Acceptor_any (g p : Nat) (w : World) (h : RdX w g p) (hp : p ≤ 900000) :
    Calls Try.prog 117 #[.pointer (some ⟨g, 0, none⟩)] w (Drawn3 w g p) := by
  have hr0 : RdX (w.alloc (.cells #[.int .i64 0, .int .i64 0, .int .i64 0] 35)) g p := h.below ((Below.refl _ w).alloc (Nat.le_refl _) _)
  have H := Lib.hid h
  clear h
  go_enter Try.func117, Try.ntmps117
  go_wp2_with fail
  refine (pickX _ _ 8 _ hr0 (by omega) (by omega) (by omega)).mono ?_
  rintro e w1 ⟨x, x0, x1, rfl, hr1, g1⟩
  have D := Lib.hid (D3.start H.out hr1 g1 x)
  clear H hr0 hr1 g1
  by_cases hx : 0 < x
  · go_wp2_with fail
    refine (pickX _ _ 2 _ D.out.2.2.2.2.1 (by omega) (by omega) (by omega)).mono ?_
    rintro e w3 ⟨y, y0, y1, rfl, hr, hg⟩
    have D := Lib.hid (D.out.pick hr hg)
    clear hr hg
    obtain ⟨c0, c1, c2⟩ := D.out.cs
    obtain ⟨d0, d1, d2⟩ := D.out.cz
    have z0 := D.out.2.2.1.fz 0
    have z1 := D.out.2.2.1.fz 1
    have z2 := D.out.2.2.1.fz 2
    have y1 := D.out.2.2.2.1.fz 1
    have y2 := D.out.2.2.2.1.fz 2
    by_cases hy : y = 0
    · have ye : (y == 0) = true := by simpa using hy
      go_wp2_with fail
      refine (pickX _ _ x _ D.out.2.2.2.2.1 (by omega) (by omega) (by omega)).mono ?_
      rintro e w4 ⟨u, u0, u1, rfl, hr, hg⟩
      have D := Lib.hid (D.out.pick hr hg)
      clear hr hg
      obtain ⟨c0, c1, c2⟩ := D.out.cs
      obtain ⟨d0, d1, d2⟩ := D.out.cz
      have z0 := D.out.2.2.1.fz 0
      have z1 := D.out.2.2.1.fz 1
      have z2 := D.out.2.2.1.fz 2
      have y1 := D.out.2.2.2.1.fz 1
      have y2 := D.out.2.2.2.1.fz 2
      have D := Lib.hid (D.out.set1 (1 + u))
      go_wp2_with fail
      refine (pickX _ _ 9 _ D.out.2.2.2.2.1 (by omega) (by omega) (by omega)).mono ?_
      rintro e w5 ⟨t, t0, t1, rfl, hr, hg⟩
      have D := Lib.hid (D.out.pick hr hg)
      clear hr hg
      obtain ⟨c0, c1, c2⟩ := D.out.cs
      obtain ⟨d0, d1, d2⟩ := D.out.cz
      have z0 := D.out.2.2.1.fz 0
      have z1 := D.out.2.2.1.fz 1
      have z2 := D.out.2.2.1.fz 2
      have y1 := D.out.2.2.2.1.fz 1
      have y2 := D.out.2.2.2.1.fz 2
      have D := Lib.hid (D.out.set2 (1 + t))
      go_wp2_with fail
      refine (pickX _ _ 40 _ D.out.2.2.2.2.1 (by omega) (by omega) (by omega)).mono ?_
      rintro e w7 ⟨k, k0, k1, rfl, hr, hg⟩
      have D := Lib.hid (D.out.pick hr hg)
      clear hr hg
      obtain ⟨c0, c1, c2⟩ := D.out.cs
      obtain ⟨d0, d1, d2⟩ := D.out.cz
      have z0 := D.out.2.2.1.fz 0
      have z1 := D.out.2.2.1.fz 1
      have z2 := D.out.2.2.1.fz 2
      have y1 := D.out.2.2.2.1.fz 1
      have y2 := D.out.2.2.2.1.fz 2
      by_cases hk0 : k = 0
      · have k0e : (k == 0) = true := by simpa using hk0
        have k1e : (k == 1) = false := by simp; omega
        clear hk0
        go_wp2_with fail
        refine (pickX _ _ 3 _ D.out.2.2.2.2.1 (by omega) (by omega) (by omega)).mono ?_
        rintro e w8 ⟨m, m0, m1, rfl, hr, hg⟩
        have D := Lib.hid (D.out.pick hr hg)
        clear hr hg
        obtain ⟨c0, c1, c2⟩ := D.out.cs
        obtain ⟨d0, d1, d2⟩ := D.out.cz
        have z0 := D.out.2.2.1.fz 0
        have z1 := D.out.2.2.1.fz 1
        have z2 := D.out.2.2.1.fz 2
        have y1 := D.out.2.2.2.1.fz 1
        have y2 := D.out.2.2.2.1.fz 2
        have F := Lib.hid (D.out.set2 m)
        obtain ⟨s0, s1, s2⟩ := F.out.cs
        have n1 := Nat.ne_of_lt D.out.2.1
        have n2 := Nat.ne_of_gt D.out.2.1
        have v0 := F.out.2.2.1.fz 0
        have v1 := F.out.2.2.1.fz 1
        have v2 := F.out.2.2.1.fz 2
        have G := Lib.hid F.out.fin
        go_wp2
        refine bodyPost_ret (res_l92 _ rfl (cells3 G.out.1.ab)) rfl ?_
        exact ⟨x, (1 + u), m, _, x0, by omega, by omega, by omega, by omega, by omega, rfl, G.out.2.1, by omega, G.out.2.2⟩
      · by_cases hk1 : k = 1
        · have k0e : (k == 0) = false := by simpa using hk0
          have k1e : (k == 1) = true := by simpa using hk1
          clear hk0 hk1
          go_wp2_with fail
          refine (pickX _ _ 22 _ D.out.2.2.2.2.1 (by omega) (by omega) (by omega)).mono ?_
          rintro e w8 ⟨m, m0, m1, rfl, hr, hg⟩
          have D := Lib.hid (D.out.pick hr hg)
          clear hr hg
          obtain ⟨c0, c1, c2⟩ := D.out.cs
          obtain ⟨d0, d1, d2⟩ := D.out.cz
          have z0 := D.out.2.2.1.fz 0
          have z1 := D.out.2.2.1.fz 1
          have z2 := D.out.2.2.1.fz 2
          have y1 := D.out.2.2.2.1.fz 1
          have y2 := D.out.2.2.2.1.fz 2
          have F := Lib.hid (D.out.set1 m)
          obtain ⟨s0, s1, s2⟩ := F.out.cs
          have n1 := Nat.ne_of_lt D.out.2.1
          have n2 := Nat.ne_of_gt D.out.2.1
          have v0 := F.out.2.2.1.fz 0
          have v1 := F.out.2.2.1.fz 1
          have v2 := F.out.2.2.1.fz 2
          have G := Lib.hid F.out.fin
          go_wp2
          refine bodyPost_ret (res_l92 _ rfl (cells3 G.out.1.ab)) rfl ?_
          exact ⟨x, m, (1 + t), _, x0, by omega, by omega, by omega, by omega, by omega, rfl, G.out.2.1, by omega, G.out.2.2⟩
        · have k0e : (k == 0) = false := by simpa using hk0
          have k1e : (k == 1) = false := by simpa using hk1
          clear hk0 hk1
          have G := Lib.hid D.out.fin
          go_wp2
          refine bodyPost_ret (res_l92 _ rfl (cells3 G.out.1.ab)) rfl ?_
          exact ⟨x, (1 + u), (1 + t), _, x0, by omega, by omega, by omega, by omega, by omega, rfl, G.out.2.1, by omega, G.out.2.2⟩
    · have ye : (y == 0) = false := by simpa using hy
      clear hy
      go_wp2_with fail
      refine (pickX _ _ 40 _ D.out.2.2.2.2.1 (by omega) (by omega) (by omega)).mono ?_
      rintro e w7 ⟨k, k0, k1, rfl, hr, hg⟩
      have D := Lib.hid (D.out.pick hr hg)
      clear hr hg
      obtain ⟨c0, c1, c2⟩ := D.out.cs
      obtain ⟨d0, d1, d2⟩ := D.out.cz
      have z0 := D.out.2.2.1.fz 0
      have z1 := D.out.2.2.1.fz 1
      have z2 := D.out.2.2.1.fz 2
      have y1 := D.out.2.2.2.1.fz 1
      have y2 := D.out.2.2.2.1.fz 2
      by_cases hk0 : k = 0
      · have k0e : (k == 0) = true := by simpa using hk0
        have k1e : (k == 1) = false := by simp; omega
        clear hk0
        go_wp2_with fail
        refine (pickX _ _ 3 _ D.out.2.2.2.2.1 (by omega) (by omega) (by omega)).mono ?_
        rintro e w8 ⟨m, m0, m1, rfl, hr, hg⟩
        have D := Lib.hid (D.out.pick hr hg)
        clear hr hg
        obtain ⟨c0, c1, c2⟩ := D.out.cs
        obtain ⟨d0, d1, d2⟩ := D.out.cz
        have z0 := D.out.2.2.1.fz 0
        have z1 := D.out.2.2.1.fz 1
        have z2 := D.out.2.2.1.fz 2
        have y1 := D.out.2.2.2.1.fz 1
        have y2 := D.out.2.2.2.1.fz 2
        have F := Lib.hid (D.out.set2 m)
        obtain ⟨s0, s1, s2⟩ := F.out.cs
        have n1 := Nat.ne_of_lt D.out.2.1
        have n2 := Nat.ne_of_gt D.out.2.1
        have v0 := F.out.2.2.1.fz 0
        have v1 := F.out.2.2.1.fz 1
        have v2 := F.out.2.2.1.fz 2
        have G := Lib.hid F.out.fin
        go_wp2
        refine bodyPost_ret (res_l92 _ rfl (cells3 G.out.1.ab)) rfl ?_
        exact ⟨x, 0, m, _, x0, by omega, by omega, by omega, by omega, by omega, rfl, G.out.2.1, by omega, G.out.2.2⟩
      · by_cases hk1 : k = 1
        · have k0e : (k == 0) = false := by simpa using hk0
          have k1e : (k == 1) = true := by simpa using hk1
          clear hk0 hk1
          go_wp2_with fail
          refine (pickX _ _ 22 _ D.out.2.2.2.2.1 (by omega) (by omega) (by omega)).mono ?_
          rintro e w8 ⟨m, m0, m1, rfl, hr, hg⟩
          have D := Lib.hid (D.out.pick hr hg)
          clear hr hg
          obtain ⟨c0, c1, c2⟩ := D.out.cs
          obtain ⟨d0, d1, d2⟩ := D.out.cz
          have z0 := D.out.2.2.1.fz 0
          have z1 := D.out.2.2.1.fz 1
          have z2 := D.out.2.2.1.fz 2
          have y1 := D.out.2.2.2.1.fz 1
          have y2 := D.out.2.2.2.1.fz 2
          have F := Lib.hid (D.out.set1 m)
          obtain ⟨s0, s1, s2⟩ := F.out.cs
          have n1 := Nat.ne_of_lt D.out.2.1
          have n2 := Nat.ne_of_gt D.out.2.1
          have v0 := F.out.2.2.1.fz 0
          have v1 := F.out.2.2.1.fz 1
          have v2 := F.out.2.2.1.fz 2
          have G := Lib.hid F.out.fin
          go_wp2
          refine bodyPost_ret (res_l92 _ rfl (cells3 G.out.1.ab)) rfl ?_
          exact ⟨x, m, 0, _, x0, by omega, by omega, by omega, by omega, by omega, rfl, G.out.2.1, by omega, G.out.2.2⟩
        · have k0e : (k == 0) = false := by simpa using hk0
          have k1e : (k == 1) = false := by simpa using hk1
          clear hk0 hk1
          have G := Lib.hid D.out.fin
          go_wp2
          refine bodyPost_ret (res_l92 _ rfl (cells3 G.out.1.ab)) rfl ?_
          exact ⟨x, 0, 0, _, x0, by omega, by omega, by omega, by omega, by omega, rfl, G.out.2.1, by omega, G.out.2.2⟩
  · have hx0 : decide (0 < x) = false := by simpa using hx
    obtain ⟨c0, c1, c2⟩ := D.out.cs
    go_wp2_with fail
    refine (pickX _ _ 40 _ D.out.2.2.2.2.1 (by omega) (by omega) (by omega)).mono ?_
    rintro e w7 ⟨k, k0, k1, rfl, hr, hg⟩
    have D := Lib.hid (D.out.pick hr hg)
    clear hr hg
    obtain ⟨c0, c1, c2⟩ := D.out.cs
    obtain ⟨d0, d1, d2⟩ := D.out.cz
    have z0 := D.out.2.2.1.fz 0
    have z1 := D.out.2.2.1.fz 1
    have z2 := D.out.2.2.1.fz 2
    have y1 := D.out.2.2.2.1.fz 1
    have y2 := D.out.2.2.2.1.fz 2
    by_cases hk0 : k = 0
    · have k0e : (k == 0) = true := by simpa using hk0
      have k1e : (k == 1) = false := by simp; omega
      clear hk0
      go_wp2_with fail
      refine (pickX _ _ 3 _ D.out.2.2.2.2.1 (by omega) (by omega) (by omega)).mono ?_
      rintro e w8 ⟨m, m0, m1, rfl, hr, hg⟩
      have D := Lib.hid (D.out.pick hr hg)
      clear hr hg
      obtain ⟨c0, c1, c2⟩ := D.out.cs
      obtain ⟨d0, d1, d2⟩ := D.out.cz
      have z0 := D.out.2.2.1.fz 0
      have z1 := D.out.2.2.1.fz 1
      have z2 := D.out.2.2.1.fz 2
      have y1 := D.out.2.2.2.1.fz 1
      have y2 := D.out.2.2.2.1.fz 2
      have F := Lib.hid (D.out.set2 m)
      obtain ⟨s0, s1, s2⟩ := F.out.cs
      have n1 := Nat.ne_of_lt D.out.2.1
      have n2 := Nat.ne_of_gt D.out.2.1
      have v0 := F.out.2.2.1.fz 0
      have v1 := F.out.2.2.1.fz 1
      have v2 := F.out.2.2.1.fz 2
      have G := Lib.hid F.out.fin
      go_wp2
      refine bodyPost_ret (res_l92 _ rfl (cells3 G.out.1.ab)) rfl ?_
      exact ⟨x, 0, m, _, x0, by omega, by omega, by omega, by omega, by omega, rfl, G.out.2.1, by omega, G.out.2.2⟩
    · by_cases hk1 : k = 1
      · have k0e : (k == 0) = false := by simpa using hk0
        have k1e : (k == 1) = true := by simpa using hk1
        clear hk0 hk1
        go_wp2_with fail
        refine (pickX _ _ 22 _ D.out.2.2.2.2.1 (by omega) (by omega) (by omega)).mono ?_
        rintro e w8 ⟨m, m0, m1, rfl, hr, hg⟩
        have D := Lib.hid (D.out.pick hr hg)
        clear hr hg
        obtain ⟨c0, c1, c2⟩ := D.out.cs
        obtain ⟨d0, d1, d2⟩ := D.out.cz
        have z0 := D.out.2.2.1.fz 0
        have z1 := D.out.2.2.1.fz 1
        have z2 := D.out.2.2.1.fz 2
        have y1 := D.out.2.2.2.1.fz 1
        have y2 := D.out.2.2.2.1.fz 2
        have F := Lib.hid (D.out.set1 m)
        obtain ⟨s0, s1, s2⟩ := F.out.cs
        have n1 := Nat.ne_of_lt D.out.2.1
        have n2 := Nat.ne_of_gt D.out.2.1
        have v0 := F.out.2.2.1.fz 0
        have v1 := F.out.2.2.1.fz 1
        have v2 := F.out.2.2.1.fz 2
        have G := Lib.hid F.out.fin
        go_wp2
        refine bodyPost_ret (res_l92 _ rfl (cells3 G.out.1.ab)) rfl ?_
        exact ⟨x, m, 0, _, x0, by omega, by omega, by omega, by omega, by omega, rfl, G.out.2.1, by omega, G.out.2.2⟩
      · have k0e : (k == 0) = false := by simpa using hk0
        have k1e : (k == 1) = false := by simpa using hk1
        clear hk0 hk1
        have G := Lib.hid D.out.fin
        go_wp2
        refine bodyPost_ret (res_l92 _ rfl (cells3 G.out.1.ab)) rfl ?_
        exact ⟨x, 0, 0, _, x0, by omega, by omega, by omega, by omega, by omega, rfl, G.out.2.1, by omega, G.out.2.2⟩
end Go.Proofs.Ytbkdhjmfphhhoaa

/- Acceptors drawn with a ballot or with a value, by their contracts. -/
namespace Go.Proofs.Ytbkdhjmfphhhoaa
open Go.RowKit

/-- While a state is drawn with more: the reader, the place for the result. -/
def E3 (w : World) (g q : Nat) (wr : World) : Prop := w.heap.size < g ∧ AF3 wr w.heap.size 0 0 0 ∧ RdX wr g q ∧ Below w.heap.size w wr
theorem E3.start {w w1 : World} (hr : RdX w1 (w.heap.size + 1) 0) (b1 : Below (w.alloc (.cells #[.int .i64 0, .int .i64 0, .int .i64 0] 35)).heap.size (w.alloc (.cells #[.int .i64 0, .int .i64 0, .int .i64 0] 35)) w1) : E3 w (w.heap.size + 1) 0 w1 :=
  ⟨by omega, (AF3.new w 0 0 0 _).below b1, hr, ((Below.refl _ w).alloc (Nat.le_refl _) _).trans (b1.mono (by simp))⟩
theorem E3.next {w wr wr' : World} {g q q' : Nat} (h : E3 w g q wr) (hr : RdX wr' g q') (hg : wr.grownBy wr' (some g)) : E3 w g q' wr' :=
  ⟨h.1, h.2.1.grown hg (by have := h.1; omega), hr, h.2.2.2.grown hg h.2.2.2.size (fun k hk => by injection hk with hk; have := h.1; omega)⟩
theorem E3.fin {w wr : World} {g q : Nat} (h : E3 w g q wr) (p a v : Int) : AF3 (set3 wr w.heap.size p a v) w.heap.size p a v ∧ Below w.heap.size w (set3 wr w.heap.size p a v) :=
  ⟨h.2.1.set3 p a v, set3_below h.2.2.2 (Nat.le_refl _) p a v⟩
/-- A drawn state and a ballot; and a value. -/
def DrewP (w : World) (e : Ending) (w' : World) : Prop := ∃ P a v b : Int, 0 ≤ b ∧ b ≤ 21 ∧ e = .returned (.tuple #[AVal P a v, .int .i64 b]) ∧ Below w.heap.size w w'
def DrewV (w : World) (e : Ending) (w' : World) : Prop := ∃ P a v : Int, e = .returned (AVal P a v) ∧ Below w.heap.size w w'
theorem quo_small {y : Int} (h0 : 0 ≤ y) (h1 : y < 24) : 0 ≤ y / 23 ∧ y / 23 ≤ 1 := by omega
end Go.Proofs.Ytbkdhjmfphhhoaa

/- Acceptors: the other draws, the laws' copies and comparisons, by their contracts. -/
namespace Go.Proofs.Ytbkdhjmfphhhoaa
open Go.RowKit

theorem results_cell_tmp2 {fn : Func} {p u v : Tmp} {ty : TypeId} (h : fn.results = #[.cell p ty, .tmp u, .tmp v]) (tmps : Array Value) (P : Program) (w : World) :
    (results fn tmps).run P w =
      ((asAddr (tmps.getD p undef)).run P w).andThen fun a w₁ => ((loadVar ty a).run P w₁).andThen fun x w₂ => .ok (.tuple #[x, tmps.getD u undef, tmps.getD v undef]) w₂ := by
  simp only [results, h]
  simp [Sem.run_bind, Result.andThen]
theorem res_toA {W : World} {b : Nat} {p a v : Int} (tmps : Array Value) (h2 : tmps.getD 2 undef = .pointer (some ⟨b, 0, none⟩))
    (h : W.cell? ⟨b, 0, none⟩ = some (.int .i64 p) ∧ W.cell? ⟨b, 1, none⟩ = some (.int .i64 a) ∧ W.cell? ⟨b, 2, none⟩ = some (.int .i64 v)) :
    (results Try.f132 tmps).run Try.prog W = .ok (AVal p a v) W := by
  obtain ⟨q0, q1, q2⟩ := h
  rw [results_one rfl, h2]
  go_simp
  rfl

def DrewPV (w : World) (e : Ending) (w' : World) : Prop := ∃ P a v b c : Int, 0 ≤ b ∧ b ≤ 21 ∧ 1 ≤ c ∧ c ≤ 108 ∧ e = .returned (.tuple #[AVal P a v, .int .i64 b, .int .i64 c]) ∧ Below w.heap.size w w'
theorem toAcc_any (p a v : Int) (w : World) :
    Calls Try.prog 132 #[AVal p a v] w fun e w' => e = .returned (AVal p a v) ∧ Below w.heap.size w w' := by
  unfold AVal
  go_enter Try.func132, Try.ntmps132
  go_wp2
  refine bodyPost_ret (res_toA (p := p) (a := a) (v := v) _ rfl (cells3 (AF3.alloc (by simpa using AF3.new (w.alloc _) p a v _) _).ab)) rfl ?_
  exact ⟨rfl, (((Below.refl _ w).alloc (Nat.le_refl _) _).alloc (by simp) _).alloc (by simp; omega) _⟩

theorem eqAcc_same (p a v : Int) (w : World) :
    Calls Try.prog 128 #[AVal p a v, AVal p a v] w fun e w' => e = .returned (.bool true) ∧ Below w.heap.size w w' := by
  unfold AVal
  go_enter Try.func128, Try.ntmps128
  go_wp2
  go_ret
  exact ⟨rfl, ((Below.refl _ w).alloc (Nat.le_refl _) _).alloc (by simp) _⟩
end Go.Proofs.Ytbkdhjmfphhhoaa

/- Lists of acceptors: drawn, copied and compared, by their contracts. -/
namespace Go.Proofs.Ytbkdhjmfphhhoaa
open Go.RowKit

theorem acp_info : (Try.prog.info? 35).map (fun i => (i.zero, i.size, i.bytes)) = some (some (AVal 0 0 0), 3, 24) := by kernel_rfl
/-- A row of n states of the call's own, of which the first k read as the list. -/
def RW3 (w : World) (g n : Nat) (l : List Ac) (k : Nat) : Prop :=
  ∃ T cur, w.heap[g]? = some (.cells cur T (0, 0)) ∧ cur.size = n * 3 ∧ ∀ j, j < k * 3 → cur[j]? = (acs l)[j]?
section
variable {w w' : World} {g n k : Nat} {l : List Ac}
theorem RW3.lt (h : RW3 w g n l k) : g < w.heap.size := by obtain ⟨T, cur, h, _⟩ := h; exact (Array.getElem?_eq_some_iff.1 h).1
theorem RW3.kept (h : RW3 w g n l k) (hb : w'.heap[g]? = w.heap[g]?) : RW3 w' g n l k := by obtain ⟨T, cur, h1, h2⟩ := h; exact ⟨T, cur, hb.trans h1, h2⟩
theorem RW3.below (h : RW3 w g n l k) (hb : Below w.heap.size w w') : RW3 w' g n l k := h.kept (hb.block g h.lt)
theorem RW3.fz (h : RW3 w g n l k) (j : Nat) : w.frozen? ⟨g, j, none⟩ = false := by obtain ⟨T, cur, h, _⟩ := h; exact frozen_of_row w g j _ _ h
theorem RW3.cellAt (h : RW3 w g n l k) {j : Nat} (hj : j < n * 3) : ∃ u, w.cell? ⟨g, j, none⟩ = some u := by
  obtain ⟨T, cur, h, hs, _⟩ := h
  exact ⟨cur[j]'(by omega), by rw [cell_of_row w g j _ _ (0, 0) h]; exact Array.getElem?_eq_getElem (by omega)⟩
theorem RW3.al (h : RW3 w g n l l.length) : AL w (some ⟨g, 0, none⟩) l := by
  rcases Nat.eq_zero_or_pos l.length with h0 | h0
  · left; exact List.eq_nil_of_length_eq_zero h0
  · right
    refine ⟨g, 0, rfl, h.lt, fun j u hu => ?_⟩
    obtain ⟨T, cur, h1, h2, h3⟩ := h
    have hj : j < l.length * 3 := by rw [← acs_len]; exact (List.getElem?_eq_some_iff.1 hu).1
    rw [Nat.zero_add, cell_of_row w g j _ _ (0, 0) h1, h3 j hj]
    exact hu
theorem set_at {cur : Array Value} {j i : Nat} {u : Value} (hi : i < cur.size) : (cur.setIfInBounds i u)[j]? = if i = j then some u else cur[j]? := by
  rw [Array.getElem?_setIfInBounds]
  by_cases h : i = j
  · simp [h, h ▸ hi]
  · simp [h]
theorem RW3.next (h : RW3 w g n l k) {x : Ac} (hx : l[k]? = some x) (hk : k < n) :
    RW3 (((w.setCell ⟨g, k * 3, none⟩ (.int .i64 x.1)).setCell ⟨g, k * 3 + 1, none⟩ (.int .i64 x.2.1)).setCell ⟨g, k * 3 + 2, none⟩ (.int .i64 x.2.2)) g n l (k + 1) := by
  obtain ⟨T, cur, h1, h2, h3⟩ := h
  obtain ⟨e0, e1, e2⟩ := acs_at l k x hx
  refine ⟨T, _, heap_setCell_same _ _ _ _ _ _ (heap_setCell_same _ _ _ _ _ _ (heap_setCell_same _ _ _ _ _ _ h1)), by simpa using h2, fun j hj => ?_⟩
  rw [set_at (by simp; omega), set_at (by simp; omega), set_at (by omega)]
  by_cases q2 : k * 3 + 2 = j
  · rw [if_pos q2, ← q2, e2]
  · rw [if_neg q2]
    by_cases q1 : k * 3 + 1 = j
    · rw [if_pos q1, ← q1, e1]
    · rw [if_neg q1]
      by_cases q0 : k * 3 = j
      · rw [if_pos q0, ← q0, e0]
      · rw [if_neg q0]
        exact h3 j (by omega)
theorem RW3.nextB {w0 : World} (hb : Below w0.heap.size w0 w) (hg : w0.heap.size ≤ g) (x : Ac) : Below w0.heap.size w0 (((w.setCell ⟨g, k * 3, none⟩ (.int .i64 x.1)).setCell ⟨g, k * 3 + 1, none⟩ (.int .i64 x.2.1)).setCell ⟨g, k * 3 + 2, none⟩ (.int .i64 x.2.2)) :=
  ((hb.setCell hg _).setCell hg _).setCell hg _
theorem RW3.made {xs : List Value} (h : w.ownsRow g 35 3 (.slice (some ⟨g, 0, none⟩) n n) n xs) : RW3 w g n l 0 := by
  rcases h.2 with ⟨h0, _⟩ | ⟨g', cap, cur, hv, _, hg, _, _, hs, _⟩
  · cases h0
  · injection hv with hA hn hc
    injection hA with hA
    injection hA with hA
    subst hA; subst hc
    exact ⟨_, cur, hg, hs, fun j hj => by omega⟩
end

set_option maxRecDepth 100000 in
set_option maxHeartbeats 1600000 in
theorem toAccS_any (A : Option Addr) (c : Nat) (l : List Ac) (w : World) (ha : AL w A l) (hl : l.length ≤ 1048576) :
    Calls Try.prog 97 #[.slice A l.length c] w fun e w' =>
      e = .returned (.slice (some ⟨w.heap.size, 0, none⟩) l.length l.length) ∧ AL w' (some ⟨w.heap.size, 0, none⟩) l ∧ Below w.heap.size w w' := by
  obtain ⟨i0, hi0, hz0, hz1, hz2⟩ := info_parts acp_info
  go_enter Try.func97, Try.ntmps97
  go_wp2_with (at_make; refine wpList_make_full _ rfl (.tmp 6) (.tmp 6) 27 rfl w.heap.size 35 i0 (AVal 0 0 0) 3 Try.underlying27 hi0 hz0 hz1 .i64 .i64 _ _ l.length rfl rfl rfl rfl (by rw [hz2]; omega) (by unfold maxLen; omega) (Nat.le_refl _) ?_)
  intro w1 hown hgrow
  have hb1 : Below w.heap.size w w1 := (Below.refl _ _).grown hgrow (Nat.le_refl _) (by simp)
  have H0 := Lib.hid (And.intro (RW3.made (l := l) hown) hb1)
  clear hgrow hown hb1
  go_wp2
  go_loopw [4] (fun i wr => ∃ k : Nat, k ≤ l.length ∧ i = .int .i64 k ∧ RW3 wr w.heap.size l.length l k ∧ Below w.heap.size w wr) (fun i _ => l.length - (intOf i).toNat)
  case atStart => exact ⟨0, Nat.zero_le _, rfl, H0.out.1, H0.out.2⟩
  case round =>
    clear H0
    obtain ⟨k, hk, rfl, hown, hbel⟩ := hrel
    by_cases hlt : k < l.length
    · obtain ⟨b, off, x, rfl, hx, c0, c1, c2⟩ := (ha.below hbel).at_ hlt
      have HX := Lib.hid hx
      have hki : (0 : Int) ≤ (k : Int) := by omega
      have hki2 : (k : Int) < (l.length : Int) := by omega
      clear hx
      obtain ⟨x0, x1, x2⟩ := x
      go_wp2_with fail
      refine (toAcc_any x0 x1 x2 _).mono ?_
      rintro e w2 ⟨rfl, b2⟩
      have R := hown.below b2
      have HB := below_step hbel b2
      obtain ⟨u0, d0⟩ := R.cellAt (j := k * 3) (by omega)
      obtain ⟨u1, d1⟩ := R.cellAt (j := k * 3 + 1) (by omega)
      obtain ⟨u2, d2⟩ := R.cellAt (j := k * 3 + 2) (by omega)
      have z0 := R.fz (k * 3)
      have z1 := R.fz (k * 3 + 1)
      have z2 := R.fz (k * 3 + 2)
      have N := Lib.hid (And.intro (R.next HX.out hlt) (RW3.nextB (k := k) HB (Nat.le_refl _) (x0, x1, x2)))
      clear R HB hbel b2 hown c0 c1 c2 HX
      unfold AVal
      go_wp2
      go_roundw
      case rel => exact ⟨k + 1, by omega, by go_num, N.out.1, N.out.2⟩
      case measure => simp [intOf]; omega
    · have hkl : k = l.length := by omega
      subst hkl
      have HR := Lib.hid hown.al
      clear hown
      go_wp2
      go_ret
      exact ⟨rfl, HR.out, hbel⟩

theorem szAcc_any (A : Option Addr) (c : Nat) (l : List Ac) (w : World) (hm : l.length ≤ maxLen) :
    Calls Try.prog 95 #[.slice A l.length c, .int .i64 1048576] w fun e w' => ∃ r : Int, e = .returned (.int .i64 r) ∧ (0 ≤ r ↔ l.length ≤ 1048576) ∧ w = w' := by
  unfold maxLen at hm
  by_cases h : (1048576 : Int) - (l.length : Int) < 0
  · have e1 : decide ((1048576 : Int) - (l.length : Int) < 0) = true := by simpa using h
    clear h
    go_enter Try.func95, Try.ntmps95
    go_wp2
    go_ret
    exact ⟨-1, rfl, by simp at e1; omega, rfl⟩
  · have e1 : decide ((1048576 : Int) - (l.length : Int) < 0) = false := by simpa using h
    clear h
    go_enter Try.func95, Try.ntmps95
    go_wp2
    go_ret
    exact ⟨_, rfl, by simp at e1; omega, rfl⟩

set_option maxRecDepth 100000 in
set_option maxHeartbeats 1600000 in
theorem eqAccS_yes (A B : Option Addr) (c d : Nat) (l : List Ac) (w : World) (ha : AL w A l) (hb : AL w B l) (hl : l.length ≤ 1048576) :
    Calls Try.prog 86 #[.slice A l.length c, .slice B l.length d] w fun e w' => e = .returned (.bool true) ∧ Below w.heap.size w w' := by
  go_enter Try.func86, Try.ntmps86
  go_wp2
  go_loopw [5] (fun i wr => ∃ k : Nat, k ≤ l.length ∧ i = .int .i64 k ∧ Below w.heap.size w wr) (fun i _ => l.length - (intOf i).toNat)
  case atStart => exact ⟨0, Nat.zero_le _, rfl, Below.refl _ w⟩
  case round =>
    obtain ⟨k, hk, rfl, hbel⟩ := hrel
    by_cases hlt : k < l.length
    · obtain ⟨b, off, x, rfl, hx, c0, c1, c2⟩ := (ha.below hbel).at_ hlt
      obtain ⟨b', off', x', rfl, hx', c0', c1', c2'⟩ := (hb.below hbel).at_ hlt
      obtain rfl : x = x' := by rw [hx] at hx'; exact Option.some.inj hx'
      have hki : (0 : Int) ≤ (k : Int) := by omega
      have hki2 : (k : Int) < (l.length : Int) := by omega
      clear hx hx'
      obtain ⟨x0, x1, x2⟩ := x
      have C := eqAcc_same x0 x1 x2
      go_wp2
      go_region_law (first
        | (go_simp; go_at_call 128; refine (C _).mono ?_; rintro e w1 ⟨rfl, b1⟩; have B1 : Below wr.heap.size wr w1 := ⟨b1.os, b1.tape, b1.output, b1.size, b1.block⟩)
        | fail)
      all_goals (
        have HB := Lib.hid (below_step hbel B1)
        clear b1 B1 hbel C c0 c1 c2 c0' c1' c2'
        go_wp2
        go_roundw
        case rel => exact ⟨k + 1, by omega, by go_num, HB.out⟩
        case measure => simp [intOf]; omega)
    · have hkl : k = l.length := by omega
      subst hkl
      go_wp2
      go_ret
      exact ⟨rfl, hbel⟩
end Go.Proofs.Ytbkdhjmfphhhoaa

/- Acceptors as arguments: one, and a slice of them, as the row's opening gives them. -/
namespace Go.Proofs.Ytbkdhjmfphhhoaa
open Go.RowKit Go.Deep Go.ChangeShapes Go.WideShapes Go.Joins

theorem acs_some {l : List Ac} {j : Nat} {u : Value} (h : (acs l)[j]? = some u) :
    ∃ k x, l[k]? = some x ∧ ((j = k * 3 ∧ u = .int .i64 x.1) ∨ (j = k * 3 + 1 ∧ u = .int .i64 x.2.1) ∨ (j = k * 3 + 2 ∧ u = .int .i64 x.2.2)) := by
  have hj : j < l.length * 3 := by rw [← acs_len]; exact (List.getElem?_eq_some_iff.1 h).1
  have hk : j / 3 < l.length := by omega
  have hx : l[j / 3]? = some l[j / 3] := List.getElem?_eq_getElem hk
  obtain ⟨h0, h1, h2⟩ := acs_at l (j / 3) _ hx
  refine ⟨j / 3, _, hx, ?_⟩
  have : j = j / 3 * 3 ∨ j = j / 3 * 3 + 1 ∨ j = j / 3 * 3 + 2 := by omega
  rcases this with e | e | e
  · rw [← e, h] at h0; exact .inl ⟨e, Option.some.inj h0⟩
  · rw [← e, h] at h1; exact .inr (.inl ⟨e, Option.some.inj h1⟩)
  · rw [← e, h] at h2; exact .inr (.inr ⟨e, Option.some.inj h2⟩)

section
variable {H : Type} {enc : TypeId × Value → H} {w : World} {base : Nat} {spare : Nat → Bool} {held : Bool}
set_option maxRecDepth 100000 in
theorem acp_of_arg {r : Reach} {b0 : Nat} {v : Value} {d : DataW H} {p : List MemPlace} (hv : Value.okWide Try.prog w r b0 166 v) (h : DataW.Trod enc Try.prog w base spare held 166 v d p) :
    ∃ P a b : Int, v = AVal P a b := by
  obtain ⟨v0, v1, v2, y0, y1, y2, n, rfl, _, _, h0, h1, h2⟩ := open_agg3 Try.underlying166 (by kernel_rfl) (by kernel_rfl) hv h
  obtain ⟨x0, e0, _⟩ := DataW.trod_int Try.underlying3 h0
  obtain ⟨x1, e1, _⟩ := DataW.trod_int Try.underlying3 h1
  obtain ⟨x2, e2, _⟩ := DataW.trod_int Try.underlying3 h2
  injection e0 with e0; injection e1 with e1; injection e2 with e2
  subst e0; subst e1; subst e2
  exact ⟨x0, x1, x2, rfl⟩
set_option maxRecDepth 100000 in
theorem al_of_arg {fuel : Nat} {a : Option Addr} {len cap : Nat} {x : DataW H × List MemPlace} (h : DataW.trod enc Try.prog w base spare held fuel 68 (Value.cells (.slice a len cap)).toList = some x) :
    ∃ l : List Ac, l.length = len ∧ len ≤ maxLen ∧ AL w a l := by
  rcases open_slice Try.underlying68 h with ⟨hcs, _⟩ | ⟨a', len', cap', m, n, D, Pl, hcs, _, hl, hm, hmm, _, hi⟩
  · simp [Value.cells] at hcs
    obtain ⟨rfl, rfl, rfl⟩ := hcs
    exact ⟨[], rfl, Nat.zero_le _, .inl rfl⟩
  · simp [Value.cells] at hcs
    obtain ⟨rfl, rfl, rfl⟩ := hcs
    have hC : Try.prog.cellsOf 166 = 3 := by kernel_rfl
    have hCi : Try.prog.cellsOf 3 = 1 := by kernel_rfl
    have hlm : len ≤ m := by rw [hmm]; split <;> omega
    have key : ∀ i, ∃ y : Ac, i < len → w.cell? (a'.add (i * 3)) = some (.int .i64 y.1) ∧ w.cell? (a'.add (i * 3 + 1)) = some (.int .i64 y.2.1) ∧ w.cell? (a'.add (i * 3 + 2)) = some (.int .i64 y.2.2) := by
      intro i
      by_cases hlt : i < len
      · obtain ⟨cs', hc, ht⟩ := hi i (by omega)
        rw [hC] at hc
        obtain ⟨_, hcl, hat⟩ := World.cells?_some hc
        obtain ⟨ys, n', _, _, _, hyl, hf⟩ := DataW.trod_struct Try.underlying166 ht
        match cs', hcl with
        | [u0, u1, u2], _ =>
          have h0 : DataW.trod enc Try.prog w base spare held n' 3 (([u0, u1, u2].drop 0).take (Try.prog.cellsOf 3)) = ys[0]? := hf 0 _ rfl
          have h1 : DataW.trod enc Try.prog w base spare held n' 3 (([u0, u1, u2].drop 1).take (Try.prog.cellsOf 3)) = ys[1]? := hf 1 _ rfl
          have h2 : DataW.trod enc Try.prog w base spare held n' 3 (([u0, u1, u2].drop 2).take (Try.prog.cellsOf 3)) = ys[2]? := hf 2 _ rfl
          rw [hCi] at h0 h1 h2
          match ys, hyl with
          | [y0, y1, y2], _ =>
            obtain ⟨x0, e0, _⟩ := DataW.trod_int Try.underlying3 h0
            obtain ⟨x1, e1, _⟩ := DataW.trod_int Try.underlying3 h1
            obtain ⟨x2, e2, _⟩ := DataW.trod_int Try.underlying3 h2
            simp at e0 e1 e2
            have a0 := hat 0 (by omega)
            have a1 := hat 1 (by omega)
            have a2 := hat 2 (by omega)
            rw [Go.Deep.add_add] at a0 a1 a2
            exact ⟨(x0, x1, x2), fun _ => ⟨by simpa [e0] using a0, by simpa [e1] using a1, by simpa [e2] using a2⟩⟩
      · exact ⟨(0, 0, 0), fun h => absurd h hlt⟩
    obtain ⟨f, hf⟩ := Classical.axiomOfChoice key
    refine ⟨(List.range len).map f, by simp, Nat.le_trans hl hm, ?_⟩
    rcases Nat.eq_zero_or_pos len with h0 | h0
    · subst h0; left; simp
    · right
      obtain ⟨b, off, spot⟩ := a'
      have hspot : spot = none := by simpa [Addr.add] using World.cell?_spot (hf 0 h0).1
      subst hspot
      refine ⟨b, off, rfl, World.block_lt_of_cell? w _ (hf 0 h0).1, fun j u hu => ?_⟩
      obtain ⟨k, y, hk, hy⟩ := acs_some hu
      have hkl : k < len := by simpa using (List.getElem?_eq_some_iff.1 hk).1
      have hyf : y = f k := by simp [hkl] at hk; exact hk.symm
      subst hyf
      obtain ⟨c0, c1, c2⟩ := hf k hkl
      rw [Addr.add_lit] at c0 c1 c2
      rcases hy with ⟨rfl, rfl⟩ | ⟨rfl, rfl⟩ | ⟨rfl, rfl⟩
      · exact c0
      · exact c1
      · exact c2
end
end Go.Proofs.Ytbkdhjmfphhhoaa
