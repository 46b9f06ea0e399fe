/- Acceptors: the whole of AcceptorPrepare and AcceptorAccept, the program's and the model's, by their contracts. -/
import Derived.Test.YtndgmglelogegaaAcpT
namespace Go.Proofs.Ytndgmglelogegaa
open Go.RowKit

section
variable {w w' : World} {b : Nat} {p a v : Int}
theorem AB3.lt (h : AB3 w b p a v) : b < w.heap.size := by obtain ⟨T, q, h⟩ := h; exact (Array.getElem?_eq_some_iff.1 h).1
theorem AB3.kept (h : AB3 w b p a v) (hb : w'.heap[b]? = w.heap[b]?) : AB3 w' b p a v := by obtain ⟨T, q, h⟩ := h; exact ⟨T, q, hb.trans h⟩
theorem AB3.below (h : AB3 w b p a v) (hb : Below w.heap.size w w') : AB3 w' b p a v := h.kept (hb.block b h.lt)
theorem AB3.below' {B : Nat} (h : AB3 w b p a v) (hb : Below B w w') (hB : b < B) : AB3 w' b p a v := h.kept (hb.block b hB)
end
/-- A state that has not been frozen. -/
def AF3 (w : World) (b : Nat) (p a v : Int) : Prop := ∃ T, w.heap[b]? = some (.cells #[.int .i64 p, .int .i64 a, .int .i64 v] T (0, 0))
section
variable {w w' : World} {b : Nat} {p a v : Int}
theorem AF3.ab (h : AF3 w b p a v) : AB3 w b p a v := by obtain ⟨T, h⟩ := h; exact ⟨T, _, h⟩
theorem AF3.fz (h : AF3 w b p a v) (j : Nat) : w.frozen? ⟨b, j, none⟩ = false := by obtain ⟨T, h⟩ := h; exact frozen_of_row w b j _ _ h
theorem AF3.kept (h : AF3 w b p a v) (hb : w'.heap[b]? = w.heap[b]?) : AF3 w' b p a v := by obtain ⟨T, h⟩ := h; exact ⟨T, hb.trans h⟩
theorem AF3.lt (h : AF3 w b p a v) : b < w.heap.size := h.ab.lt
theorem AF3.below (h : AF3 w b p a v) (hb : Below w.heap.size w w') : AF3 w' b p a v := h.kept (hb.block b h.lt)
theorem AF3.set0 (h : AF3 w b p a v) (x : Int) : AF3 (w.setCell ⟨b, 0, none⟩ (.int .i64 x)) b x a v := by
  obtain ⟨T, h⟩ := h
  refine ⟨T, ?_⟩
  rw [heap_setCell_same w b 0 _ _ _ h]
  rfl
theorem AF3.set1 (h : AF3 w b p a v) (x : Int) : AF3 (w.setCell ⟨b, 1, none⟩ (.int .i64 x)) b p x v := by
  obtain ⟨T, h⟩ := h
  refine ⟨T, ?_⟩
  rw [heap_setCell_same w b 1 _ _ _ h]
  rfl
theorem AF3.set2 (h : AF3 w b p a v) (x : Int) : AF3 (w.setCell ⟨b, 2, none⟩ (.int .i64 x)) b p a x := by
  obtain ⟨T, h⟩ := h
  refine ⟨T, ?_⟩
  rw [heap_setCell_same w b 2 _ _ _ h]
  rfl
def set3 (w : World) (b : Nat) (p a v : Int) : World := ((w.setCell ⟨b, 0, none⟩ (.int .i64 p)).setCell ⟨b, 1, none⟩ (.int .i64 a)).setCell ⟨b, 2, none⟩ (.int .i64 v)
theorem AF3.set3 (h : AF3 w b p a v) (p' a' v' : Int) : AF3 (set3 w b p' a' v') b p' a' v' := ((h.set0 p').set1 a').set2 v'
theorem set3_below {x : World} {B : Nat} (h : Below B x w) (hb : B ≤ b) (p' a' v' : Int) : Below B x (Go.Proofs.Ytndgmglelogegaa.set3 w b p' a' v') := ((h.setCell hb _).setCell hb _).setCell hb _
theorem AF3.new (w : World) (p a v : Int) (T : Nat) : AF3 (w.alloc (.cells #[.int .i64 p, .int .i64 a, .int .i64 v] T)) w.heap.size p a v := ⟨T, heap_alloc_new w _⟩
theorem AF3.alloc (h : AF3 w b p a v) (o : Obj) : AF3 (w.alloc o) b p a v := h.kept (Below.heap_alloc w o b h.lt)
end
/-- A state boxed, a place for the result. -/
def two3 (w : World) (p a v : Int) : World := (w.alloc (.cells #[.int .i64 p, .int .i64 a, .int .i64 v] 24)).alloc (.cells #[.int .i64 0, .int .i64 0, .int .i64 0] 24)
theorem two3_facts (w : World) (p a v : Int) : AF3 (two3 w p a v) w.heap.size p a v ∧ AF3 (two3 w p a v) (w.heap.size + 1) 0 0 0 ∧ Below w.heap.size w (two3 w p a v) := by
  refine ⟨(AF3.new w p a v _).alloc _, ?_, ((Below.refl _ w).alloc (Nat.le_refl _) _).alloc (by simp) _⟩
  have := AF3.new (w.alloc (.cells #[.int .i64 p, .int .i64 a, .int .i64 v] 24)) 0 0 0 24
  rw [World.size_alloc] at this
  exact this

set_option maxRecDepth 100000 in
set_option maxHeartbeats 1600000 in
theorem ansP (p a v b c : Int) (w : World) :
    Calls Try.prog 38 #[AVal p a v, .func (.func 39) #[.agg #[.int .i64 b, .int .i64 c]] #[]] w (Said3 w (if okA p a v then prepA (p, a, v) b else ((0, 0, 0), false))) := by
  have H0 := Lib.hid (two3_facts w p a v)
  by_cases hok : okA p a v = true
  · rw [hok, if_pos rfl]
    obtain ⟨r, hr⟩ : ∃ r, r = prepA (p, a, v) b := ⟨_, rfl⟩
    rw [← hr]
    have HR := Lib.hid hr
    clear hr
    obtain ⟨⟨p', a', v'⟩, t⟩ := r
    unfold AVal
    go_enter Try.func38, Try.ntmps38
    go_wp2_with fail
    refine (impValid_any _ _ _ _).mono ?_
    rintro e w1 ⟨rfl, b1⟩
    have G := Lib.hid (And.intro (H0.out.1.below b1) (And.intro (H0.out.2.1.below b1) (below_step H0.out.2.2 (b1.mono (Nat.le_refl _)))))
    clear H0 b1
    rw [hok]
    obtain ⟨q0, q1, q2⟩ := cells3 G.out.1.ab
    go_wp2_with fail
    refine (iPrep_any p a v b c _).mono ?_
    rintro e w2 ⟨rfl, b2⟩
    have G2 := Lib.hid (And.intro (G.out.2.1.below b2) (below_step G.out.2.2 (b2.mono (Nat.le_refl _))))
    clear G b2 q0 q1 q2
    rw [← HR.out]
    obtain ⟨q0, q1, q2⟩ := cells3 G2.out.1.ab
    have z0 := G2.out.1.fz 0
    have z1 := G2.out.1.fz 1
    have z2 := G2.out.1.fz 2
    have G3 := Lib.hid (And.intro (G2.out.1.set3 p' a' v') (set3_below G2.out.2 (Nat.le_succ _) p' a' v'))
    simp only [Ac.val, AVal]
    go_wp2
    refine bodyPost_ret (res_iAns _ rfl rfl (cells3 G3.out.1.ab)) rfl ?_
    exact ⟨rfl, G3.out.2⟩
  · rw [Bool.not_eq_true] at hok
    rw [hok, if_neg (by simp)]
    unfold AVal
    go_enter Try.func38, Try.ntmps38
    go_wp2_with fail
    refine (impValid_any _ _ _ _).mono ?_
    rintro e w1 ⟨rfl, b1⟩
    have G := Lib.hid (And.intro (H0.out.1.below b1) (And.intro (H0.out.2.1.below b1) (below_step H0.out.2.2 (b1.mono (Nat.le_refl _)))))
    clear H0 b1
    rw [hok]
    obtain ⟨q0, q1, q2⟩ := cells3 G.out.2.1.ab
    have z0 := G.out.2.1.fz 0
    have z1 := G.out.2.1.fz 1
    have z2 := G.out.2.1.fz 2
    have G3 := Lib.hid (And.intro (G.out.2.1.set3 0 0 0) (set3_below G.out.2.2 (Nat.le_succ _) 0 0 0))
    go_wp2
    refine bodyPost_ret (res_iAns _ rfl rfl (cells3 G3.out.1.ab)) rfl ?_
    exact ⟨rfl, G3.out.2⟩

set_option maxRecDepth 100000 in
set_option maxHeartbeats 1600000 in
theorem ansA (p a v b c : Int) (w : World) :
    Calls Try.prog 38 #[AVal p a v, .func (.func 42) #[.agg #[.int .i64 b, .int .i64 c]] #[]] w (Said3 w (if okA p a v then acceA (p, a, v) b c else ((0, 0, 0), false))) := by
  have H0 := Lib.hid (two3_facts w p a v)
  by_cases hok : okA p a v = true
  · rw [hok, if_pos rfl]
    obtain ⟨r, hr⟩ : ∃ r, r = acceA (p, a, v) b c := ⟨_, rfl⟩
    rw [← hr]
    have HR := Lib.hid hr
    clear hr
    obtain ⟨⟨p', a', v'⟩, t⟩ := r
    unfold AVal
    go_enter Try.func38, Try.ntmps38
    go_wp2_with fail
    refine (impValid_any _ _ _ _).mono ?_
    rintro e w1 ⟨rfl, b1⟩
    have G := Lib.hid (And.intro (H0.out.1.below b1) (And.intro (H0.out.2.1.below b1) (below_step H0.out.2.2 (b1.mono (Nat.le_refl _)))))
    clear H0 b1
    rw [hok]
    obtain ⟨q0, q1, q2⟩ := cells3 G.out.1.ab
    go_wp2_with fail
    refine (iAcce_any p a v b c _).mono ?_
    rintro e w2 ⟨rfl, b2⟩
    have G2 := Lib.hid (And.intro (G.out.2.1.below b2) (below_step G.out.2.2 (b2.mono (Nat.le_refl _))))
    clear G b2 q0 q1 q2
    rw [← HR.out]
    obtain ⟨q0, q1, q2⟩ := cells3 G2.out.1.ab
    have z0 := G2.out.1.fz 0
    have z1 := G2.out.1.fz 1
    have z2 := G2.out.1.fz 2
    have G3 := Lib.hid (And.intro (G2.out.1.set3 p' a' v') (set3_below G2.out.2 (Nat.le_succ _) p' a' v'))
    simp only [Ac.val, AVal]
    go_wp2
    refine bodyPost_ret (res_iAns _ rfl rfl (cells3 G3.out.1.ab)) rfl ?_
    exact ⟨rfl, G3.out.2⟩
  · rw [Bool.not_eq_true] at hok
    rw [hok, if_neg (by simp)]
    unfold AVal
    go_enter Try.func38, Try.ntmps38
    go_wp2_with fail
    refine (impValid_any _ _ _ _).mono ?_
    rintro e w1 ⟨rfl, b1⟩
    have G := Lib.hid (And.intro (H0.out.1.below b1) (And.intro (H0.out.2.1.below b1) (below_step H0.out.2.2 (b1.mono (Nat.le_refl _)))))
    clear H0 b1
    rw [hok]
    obtain ⟨q0, q1, q2⟩ := cells3 G.out.2.1.ab
    have z0 := G.out.2.1.fz 0
    have z1 := G.out.2.1.fz 1
    have z2 := G.out.2.1.fz 2
    have G3 := Lib.hid (And.intro (G.out.2.1.set3 0 0 0) (set3_below G.out.2.2 (Nat.le_succ _) 0 0 0))
    go_wp2
    refine bodyPost_ret (res_iAns _ rfl rfl (cells3 G3.out.1.ab)) rfl ?_
    exact ⟨rfl, G3.out.2⟩
end Go.Proofs.Ytndgmglelogegaa
