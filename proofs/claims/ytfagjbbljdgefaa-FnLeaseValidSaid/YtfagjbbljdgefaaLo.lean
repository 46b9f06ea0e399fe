/- The methods of the keeper of a lease, by their contracts. -/
import Derived.Test.YtfagjbbljdgefaaLn
import Derived.BigQuiet
namespace Go.Proofs.Ytfagjbbljdgefaa
open Go.RowKit
open Go.MuLone

set_option maxRecDepth 100000 in
set_option maxHeartbeats 3200000 in
theorem isExpired_any (b : Nat) (h s n now d : Int) (w : World) (hk0 : KB w b 0 h s n d) (hd0 : 0 ≤ d) (hd1 : d ≤ 99) :
    Calls Try.prog 35 #[.pointer (some ⟨b, 0, none⟩), .int .i64 now] w (SaidL w b (!hlOk h s n || decide (s + n + d ≤ now))) := by
  have L0 := Lib.hid (And.intro hk0.cs.1 (hk0.fz 0))
  have HB := Lib.hid (fun w3 h3 u => shutL (w3 := w3) (o := .int .i32 1) hk0 h3 u)
  have HK := Lib.hid (hk0.lock 1)
  clear hk0
  obtain ⟨t, ht⟩ : ∃ t, t = (!hlOk h s n || decide (s + n + d ≤ now)) := ⟨_, rfl⟩
  rw [← ht]
  have HT := Lib.hid ht
  clear ht
  go_enter_defers Try.func35, Try.ntmps35
  go_wp2_with (go_at_call 40; refine (lock_free Try.muLib ⟨b, 0, none⟩ _ L0.out.1 L0.out.2).mono ?_; rintro e w' ⟨rfl, rfl⟩; generalize w.setCell ⟨b, 0, none⟩ (.int .i32 1) = w1 at HK HB ⊢)
  refine (expired_any b 1 h s n now d _ HK.out hd0 hd1).mono ?_
  rintro e w3 ⟨rfl, b3⟩
  rw [← HT.out]
  have HF := Lib.hid b3
  clear b3
  go_wp2
  refine leaves_cons (f := 41) (args := #[.pointer (some ⟨b, 0, none⟩)]) (by simp) (by simp [go_sem]) ?_
  refine (unlock_deferred Try.muLib ⟨b, 0, none⟩ .returning _ (HK.out.below HF.out).cs.1 ((HK.out.below HF.out).fz 0)).mono ?_
  rintro e u' w'' ⟨rfl, rfl, rfl⟩
  exact ⟨_, results_tmp rfl _ _ _, rfl, HB.out _ HF.out _⟩

/-- While a lease is granted: the keeper's block, the box of the next lease, the place for the result. -/
def G3 (w w1 : World) (b : Nat) (h s n d h' s' n' : Int) : Prop := KB w1 b 1 h s n d ∧ AF3 w1 w.heap.size h' s' n' ∧ AF3 w1 (w.heap.size + 1) 0 0 0 ∧ b < w.heap.size ∧ ∀ N, N ≤ b → Below N w w1
def St3 (w w1 : World) (b : Nat) (h s n h' s' n' : Int) (w' : World) : Prop := Below w1.heap.size w1 w' ∧ w'.cell? ⟨b, 2, none⟩ = some (.int .i64 h) ∧ w'.cell? ⟨b, 3, none⟩ = some (.int .i64 s) ∧ w'.cell? ⟨b, 4, none⟩ = some (.int .i64 n) ∧ w'.cell? ⟨w.heap.size, 0, none⟩ = some (.int .i64 h') ∧ w'.cell? ⟨w.heap.size, 1, none⟩ = some (.int .i64 s') ∧ w'.cell? ⟨w.heap.size, 2, none⟩ = some (.int .i64 n')
section
variable {w w1 w3 : World} {b : Nat} {h s n d h' s' n' : Int}
theorem G3.below (G : G3 w w1 b h s n d h' s' n') (hb : Below w1.heap.size w1 w3) : G3 w w3 b h s n d h' s' n' :=
  ⟨G.1.below hb, G.2.1.below hb, G.2.2.1.below hb, G.2.2.2.1, fun N hN => (G.2.2.2.2 N hN).trans (hb.mono (by have := G.1.lt; omega))⟩
theorem G3.st (G : G3 w w1 b h s n d h' s' n') (hb : Below w1.heap.size w1 w3) : St3 w w1 b h s n h' s' n' w3 := by
  have G' := G.below hb
  obtain ⟨c0, c2, c3, c4, c5⟩ := G'.1.cs
  obtain ⟨d0, d1, d2⟩ := cells3 G'.2.1.ab
  exact ⟨hb, c2, c3, c4, d0, d1, d2⟩
theorem St3.step (S : St3 w w1 b h s n h' s' n' w3) {w4 : World} (G : G3 w w1 b h s n d h' s' n') (hb : Below w3.heap.size w3 w4) : St3 w w1 b h s n h' s' n' w4 := G.st (below_step S.1 hb)
theorem G3.start (hk : KB w b 0 h s n d) : G3 w ((two3w w h' s' n' 0 0 0).setCell ⟨b, 0, none⟩ (.int .i32 1)) b h s n d h' s' n' := by
  obtain ⟨x, y, z⟩ := two3L w h' s' n' 0 0 0
  have hlt := hk.lt
  have kb := (hk.below z)
  refine ⟨kb.lock 1, x.kept (Below.heap_setCell _ ⟨b, 0, none⟩ _ _ (by simp; omega)), y.kept (Below.heap_setCell _ ⟨b, 0, none⟩ _ _ (by simp; omega)), hlt, fun N hN => ?_⟩
  exact (z.mono (by omega)).setCell hN _
/-- The end where it is not granted. -/
theorem G3.no (G : G3 w w3 b h s n d h' s' n') (u : Value) : AF3 (((set3 w3 (w.heap.size + 1) h s n)).setCell ⟨b, 0, none⟩ u) (w.heap.size + 1) h s n ∧ ∀ N, N ≤ b → Below N w ((set3 w3 (w.heap.size + 1) h s n).setCell ⟨b, 0, none⟩ u) := by
  have hlt := G.2.2.2.1
  refine ⟨(G.2.2.1.set3 h s n).kept (Below.heap_setCell _ ⟨b, 0, none⟩ _ _ (by simp; omega)), fun N hN => ?_⟩
  have hN1 : N ≤ w.heap.size + 1 := by omega
  exact ((((G.2.2.2.2 N hN).setCell hN1 _).setCell hN1 _).setCell hN1 _).setCell hN _
theorem G3.noK (G : G3 w w3 b h s n d h' s' n') : KB (set3 w3 (w.heap.size + 1) h s n) b 1 h s n d := by
  have hlt := G.2.2.2.1
  exact ((G.1.kept (Below.heap_setCell _ ⟨w.heap.size + 1, 0, none⟩ _ _ (by simp; omega))).kept (Below.heap_setCell _ ⟨w.heap.size + 1, 1, none⟩ _ _ (by simp; omega))).kept (Below.heap_setCell _ ⟨w.heap.size + 1, 2, none⟩ _ _ (by simp; omega))
/-- The lease is kept. -/
theorem G3.kept (G : G3 w w3 b h s n d h' s' n') : G3 w (setL w3 b h' s' n') b h' s' n' d h' s' n' := by
  have hlt := G.2.2.2.1
  have e : ∀ k, b ≠ k → (setL w3 b h' s' n').heap[k]? = w3.heap[k]? := fun k hk =>
    ((Below.heap_setCell _ ⟨b, 4, none⟩ _ k (by simpa using Ne.symm hk)).trans (Below.heap_setCell _ ⟨b, 3, none⟩ _ k (by simpa using Ne.symm hk))).trans (Below.heap_setCell _ ⟨b, 2, none⟩ _ k (by simpa using Ne.symm hk))
  refine ⟨G.1.setL h' s' n', G.2.1.kept (e _ (by omega)), G.2.2.1.kept (e _ (by omega)), hlt, fun N hN => ?_⟩
  exact (((G.2.2.2.2 N hN).setCell hN _).setCell hN _).setCell hN _
end
/-- A lease and a flag, handed back by a method that takes the lock and gives it back. -/
def SaidG (w : World) (b : Nat) (r : Ac × Bool) (e : Ending) (w' : World) : Prop := e = .returned (.tuple #[r.1.val, .bool r.2]) ∧ ∀ N, N ≤ b → Below N w w'
def gr0 (h s n d h' s' n' : Int) : Ac × Bool := if (!hlOk h s n || decide (s + n + d ≤ s') || extBy h s n h' s' n') = true then ((h', s', n'), true) else ((h, s, n), false)
theorem res_grant {W : World} {b : Nat} {p a v : Int} {ok : Bool} (tmps : Array Value) (h2 : tmps.getD 4 undef = .pointer (some ⟨b, 0, none⟩)) (h3 : tmps.getD 5 undef = .bool ok) (h : AF3 W b p a v) :
    (results Try.f38 tmps).run Try.prog W = .ok (.tuple #[AVal p a v, .bool ok]) W := by
  obtain ⟨q0, q1, q2⟩ := cells3 h.ab
  rw [results_cell_tmp rfl, h2, h3]
  go_simp
  rfl

set_option maxRecDepth 100000 in
set_option maxHeartbeats 6400000 in
theorem grant_any (b : Nat) (h s n d h' s' n' : Int) (w : World) (hk0 : KB w b 0 h s n d) (hd0 : 0 ≤ d) (hd1 : d ≤ 99) (hn : hlOk h' s' n' = true) :
    Calls Try.prog 38 #[.pointer (some ⟨b, 0, none⟩), AVal h' s' n'] w (SaidG w b (gr0 h s n d h' s' n')) := by
  have HK := Lib.hid hk0
  have L0 := Lib.hid (show (two3w w h' s' n' 0 0 0).cell? ⟨b, 0, none⟩ = some (.int .i32 0) ∧ (two3w w h' s' n' 0 0 0).frozen? ⟨b, 0, none⟩ = false from ⟨(hk0.below (two3L w h' s' n' 0 0 0).2.2).cs.1, (hk0.below (two3L w h' s' n' 0 0 0).2.2).fz 0⟩)
  unfold two3w at L0
  clear hk0
  by_cases ht : (!hlOk h s n || decide (s + n + d ≤ s')) = true
  · rw [show gr0 h s n d h' s' n' = ((h', s', n'), true) by unfold gr0; rw [ht]; rfl]
    have HT := Lib.hid ht
    clear ht
    unfold AVal
    go_enter_defers Try.func38, Try.ntmps38
    go_wp2_with (go_at_call 40; refine (lock_free Try.muLib ⟨b, 0, none⟩ _ L0.out.1 L0.out.2).mono ?_; rintro e w' ⟨rfl, rfl⟩; have HG := Lib.hid (G3.start (h' := h') (s' := s') (n' := n') HK.out); unfold two3w at HG; generalize World.setCell _ ⟨b, 0, none⟩ (.int .i32 1) = w1 at HG ⊢; obtain ⟨B0, c2, c3, c4, d0, d1, d2⟩ := HG.out.st (Below.refl _ _))
    refine wp_region_noPanic ?_
    refine wp_region_any (by kernel_rfl) ?_
    try (change wpAny _ _ _ _ _ _ _ (World.drew _))
    refine wpAny_take (i := 0) (v := ?_) rfl (by kernel_rfl) (by kernel_rfl) (by kernel_rfl) (fun _ _ _ h => h) (Or.inl ⟨by kernel_rfl, ?_⟩) ?_
    rotate_left
    · (intro w; go_simp; try with_reducible rfl)
    try simp only [Act.put, List.getElem_toArray, List.getElem_cons_zero, List.setIfInBounds_toArray, List.set_cons_zero, List.set_cons_succ]
    refine wpAny_take (i := 1) (v := ?_) rfl (by kernel_rfl) (by kernel_rfl) (by kernel_rfl) (fun _ _ _ h => h) (Or.inl ⟨by kernel_rfl, ?_⟩) ?_
    rotate_left
    · (intro w; go_simp; try with_reducible rfl)
    try simp only [Act.put, List.getElem_toArray, List.getElem_cons_succ, List.getElem_cons_zero, List.setIfInBounds_toArray, List.set_cons_zero, List.set_cons_succ]
    refine wpAny_ready (rs := [2]) (by kernel_rfl) (by simp) ?_
    refine AllReady.cons rfl (fun K hK => ?_) AllReady.nil
    go_simp
    refine hK _ _ ?_
    clear hK K
    try simp only [Act.put, List.getElem_toArray, List.getElem_cons_succ, List.getElem_cons_zero, List.setIfInBounds_toArray, List.set_cons_zero, List.set_cons_succ]
    refine wpAny_ready (rs := [3]) (by kernel_rfl) (by simp) ?_
    refine AllReady.cons rfl (fun K hK => ?_) AllReady.nil
    go_simp
    refine (expired_any b 1 h s n s' d _ (HG.out.below ((Below.refl _ _).drew)).1 hd0 hd1).mono ?_
    rintro e w3 ⟨rfl, b3⟩
    rw [HT.out]
    have HB3 := Lib.hid (show Below w1.heap.size w1 w3 from ⟨b3.os, b3.tape, b3.output, b3.size, b3.block⟩)
    clear b3 c2 c3 c4 d0 d1 d2 B0
    refine hK _ _ ?_
    clear hK K
    try simp only [Act.put, List.getElem_toArray, List.getElem_cons_succ, List.getElem_cons_zero, List.setIfInBounds_toArray, List.set_cons_zero, List.set_cons_succ]
    refine wpAny_take (i := 4) (v := ?_) rfl (by kernel_rfl) (by kernel_rfl) (by kernel_rfl) (fun _ _ _ h => h) (Or.inl ⟨by kernel_rfl, ?_⟩) ?_
    rotate_left
    · (intro w; go_simp; try with_reducible rfl)
    try simp only [Act.put, List.getElem_toArray, List.getElem_cons_succ, List.getElem_cons_zero, List.setIfInBounds_toArray, List.set_cons_zero, List.set_cons_succ]
    refine wpAny_take (i := 5) (v := ?_) rfl (by kernel_rfl) (by kernel_rfl) (by kernel_rfl) (fun _ _ _ h => h) (Or.inl ⟨by kernel_rfl, ?_⟩) ?_
    rotate_left
    · (intro w; go_simp; try with_reducible rfl)
    try simp only [Act.put, List.getElem_toArray, List.getElem_cons_succ, List.getElem_cons_zero, List.setIfInBounds_toArray, List.set_cons_zero, List.set_cons_succ]
    refine wpAny_take (i := 6) (v := undef) rfl (by kernel_rfl) (by kernel_rfl) (by kernel_rfl) (fun _ _ _ h => h) (Or.inr ⟨by kernel_rfl, rfl⟩) ?_
    try simp only [Act.put, List.getElem_toArray, List.getElem_cons_succ, List.getElem_cons_zero, List.setIfInBounds_toArray, List.set_cons_zero, List.set_cons_succ]
    refine wpAny_take (i := 7) (v := undef) rfl (by kernel_rfl) (by kernel_rfl) (by kernel_rfl) (fun _ _ _ h => h) (Or.inr ⟨by kernel_rfl, rfl⟩) ?_
    try simp only [Act.put, List.getElem_toArray, List.getElem_cons_succ, List.getElem_cons_zero, List.setIfInBounds_toArray, List.set_cons_zero, List.set_cons_succ]
    refine wpAny_take (i := 8) (v := undef) rfl (by kernel_rfl) (by kernel_rfl) (by kernel_rfl) (fun _ _ _ h => h) (Or.inr ⟨by kernel_rfl, rfl⟩) ?_
    try simp only [Act.put, List.getElem_toArray, List.getElem_cons_succ, List.getElem_cons_zero, List.setIfInBounds_toArray, List.set_cons_zero, List.set_cons_succ]
    refine wpAny_take (i := 9) (v := undef) rfl (by kernel_rfl) (by kernel_rfl) (by kernel_rfl) (fun _ _ _ h => h) (Or.inr ⟨by kernel_rfl, rfl⟩) ?_
    try simp only [Act.put, List.getElem_toArray, List.getElem_cons_succ, List.getElem_cons_zero, List.setIfInBounds_toArray, List.set_cons_zero, List.set_cons_succ]
    refine wpAny_take (i := 10) (v := undef) rfl (by kernel_rfl) (by kernel_rfl) (by kernel_rfl) (fun _ _ _ h => h) (Or.inr ⟨by kernel_rfl, rfl⟩) ?_
    try simp only [Act.put, List.getElem_toArray, List.getElem_cons_succ, List.getElem_cons_zero, List.setIfInBounds_toArray, List.set_cons_zero, List.set_cons_succ]
    refine wpAny_take (i := 11) (v := undef) rfl (by kernel_rfl) (by kernel_rfl) (by kernel_rfl) (fun _ _ _ h => h) (Or.inr ⟨by kernel_rfl, rfl⟩) ?_
    try simp only [Act.put, List.getElem_toArray, List.getElem_cons_succ, List.getElem_cons_zero, List.setIfInBounds_toArray, List.set_cons_zero, List.set_cons_succ]
    refine wpAny_take (i := 12) (v := undef) rfl (by kernel_rfl) (by kernel_rfl) (by kernel_rfl) (fun _ _ _ h => h) (Or.inr ⟨by kernel_rfl, rfl⟩) ?_
    try simp only [Act.put, List.getElem_toArray, List.getElem_cons_succ, List.getElem_cons_zero, List.setIfInBounds_toArray, List.set_cons_zero, List.set_cons_succ]
    refine wpAny_take (i := 13) (v := ?_) rfl (by kernel_rfl) (by kernel_rfl) (by kernel_rfl) (fun _ _ _ h => h) (Or.inl ⟨by kernel_rfl, ?_⟩) ?_
    rotate_left
    · (intro w; go_simp; try with_reducible rfl)
    try simp only [Act.put, List.getElem_toArray, List.getElem_cons_succ, List.getElem_cons_zero, List.setIfInBounds_toArray, List.set_cons_zero, List.set_cons_succ]
    refine wpAny_done (by kernel_rfl) ?_ _
    refine NoPanic.normal ?_
    have HG3 := Lib.hid (HG.out.below HB3.out)
    obtain ⟨k0, k2, k3, k4, k5⟩ := HG3.out.1.cs
    obtain ⟨x0, x1, x2⟩ := cells3 HG3.out.2.1.ab
    obtain ⟨y0, y1, y2⟩ := cells3 HG3.out.2.2.1.ab
    have p2 := HG3.out.1.fz 2
    have p3 := HG3.out.1.fz 3
    have p4 := HG3.out.1.fz 4
    have q0 := HG3.out.2.2.1.fz 0
    have q1 := HG3.out.2.2.1.fz 1
    have q2 := HG3.out.2.2.1.fz 2
    have ne1 : ¬ b = w.heap.size := by have := HG3.out.2.2.2.1; omega
    have ne2 : ¬ b = w.heap.size + 1 := by have := HG3.out.2.2.2.1; omega
    have ne3 : ¬ w.heap.size = b := fun h => ne1 h.symm
    have ne4 : ¬ w.heap.size + 1 = b := fun h => ne2 h.symm
    go_wp2
    refine leaves_cons (f := 41) (args := #[.pointer (some ⟨b, 0, none⟩)]) (by simp) (by simp [go_sem]) ?_
    refine (unlock_deferred Try.muLib ⟨b, 0, none⟩ .returning _ (HG3.out.kept).noK.cs.1 ((HG3.out.kept).noK.fz 0)).mono ?_
    rintro e u' w'' ⟨rfl, rfl, rfl⟩
    exact ⟨_, res_grant _ rfl rfl ((HG3.out.kept).no _).1, rfl, ((HG3.out.kept).no _).2⟩
  · rw [Bool.not_eq_true] at ht
    have hh : hlOk h s n = true := by revert ht; cases hlOk h s n <;> simp
    obtain ⟨h0, h1, s0, s1, l0, l1⟩ := hl_parts hh
    obtain ⟨h0', h1', s0', s1', l0', l1'⟩ := hl_parts hn
    have HT := Lib.hid ht
    have HX := Lib.hid (fun W : World => extendedBy_any h s n h' s' n' W s0 s1 (by omega) l1 s0' s1' (by omega) l1')
    have he : gr0 h s n d h' s' n' = if extBy h s n h' s' n' = true then ((h', s', n'), true) else ((h, s, n), false) := by unfold gr0; rw [ht]; rfl
    rw [he]
    clear ht hh hn h0 h1 s0 s1 l0 l1 h0' h1' s0' s1' l0' l1' he
    by_cases hx : extBy h s n h' s' n' = true
    · rw [if_pos hx]
      have HE := Lib.hid hx
      clear hx
      unfold AVal
      unfold AVal at HX
      go_enter_defers Try.func38, Try.ntmps38
      go_wp2_with (go_at_call 40; refine (lock_free Try.muLib ⟨b, 0, none⟩ _ L0.out.1 L0.out.2).mono ?_; rintro e w' ⟨rfl, rfl⟩; have HG := Lib.hid (G3.start (h' := h') (s' := s') (n' := n') HK.out); unfold two3w at HG; generalize World.setCell _ ⟨b, 0, none⟩ (.int .i32 1) = w1 at HG ⊢; obtain ⟨B0, c2, c3, c4, d0, d1, d2⟩ := HG.out.st (Below.refl _ _))
      go_region_held3 (fun w' => Below w1.heap.size w1 w' ∧ w'.cell? ⟨b, 2, none⟩ = some (.int .i64 h) ∧ w'.cell? ⟨b, 3, none⟩ = some (.int .i64 s) ∧ w'.cell? ⟨b, 4, none⟩ = some (.int .i64 n) ∧ w'.cell? ⟨w.heap.size, 0, none⟩ = some (.int .i64 h') ∧ w'.cell? ⟨w.heap.size, 1, none⟩ = some (.int .i64 s') ∧ w'.cell? ⟨w.heap.size, 2, none⟩ = some (.int .i64 n'))
        (first | assumption | exact HG.out.st ((Below.refl _ _).drew) | (refine St3.step ?_ HG.out b3; assumption) | fail)
        (first
          | (go_at_call 43; (refine (expired_any b 1 h s n s' d _ (HG.out.below ((Below.refl _ _).drew)).1 hd0 hd1).mono ?_); rintro e w3 ⟨rfl, b3⟩; rw [HT.out])
          | (go_at_call 45; refine (HX.out _).mono ?_; rintro e w3 ⟨rfl, b3⟩; rw [HE.out])
          | fail)
      all_goals have HB3 := Lib.hid (And.left (by assumption : St3 w w1 b h s n h' s' n' _))
      all_goals (
        have HG3 := Lib.hid (HG.out.below HB3.out)
        obtain ⟨k0, k2, k3, k4, k5⟩ := HG3.out.1.cs
        obtain ⟨x0, x1, x2⟩ := cells3 HG3.out.2.1.ab
        obtain ⟨y0, y1, y2⟩ := cells3 HG3.out.2.2.1.ab
        have p2 := HG3.out.1.fz 2
        have p3 := HG3.out.1.fz 3
        have p4 := HG3.out.1.fz 4
        have q0 := HG3.out.2.2.1.fz 0
        have q1 := HG3.out.2.2.1.fz 1
        have q2 := HG3.out.2.2.1.fz 2
        have ne1 : ¬ b = w.heap.size := by have := HG3.out.2.2.2.1; omega
        have ne2 : ¬ b = w.heap.size + 1 := by have := HG3.out.2.2.2.1; omega
        have ne3 : ¬ w.heap.size = b := fun h => ne1 h.symm
        have ne4 : ¬ w.heap.size + 1 = b := fun h => ne2 h.symm
        go_wp2
        refine leaves_cons (f := 41) (args := #[.pointer (some ⟨b, 0, none⟩)]) (by simp) (by simp [go_sem]) ?_
        refine (unlock_deferred Try.muLib ⟨b, 0, none⟩ .returning _ (HG3.out.kept).noK.cs.1 ((HG3.out.kept).noK.fz 0)).mono ?_
        rintro e u' w'' ⟨rfl, rfl, rfl⟩
        exact ⟨_, res_grant _ rfl rfl ((HG3.out.kept).no _).1, rfl, ((HG3.out.kept).no _).2⟩)
    · rw [if_neg hx]
      rw [Bool.not_eq_true] at hx
      have HE := Lib.hid hx
      clear hx
      unfold AVal
      unfold AVal at HX
      go_enter_defers Try.func38, Try.ntmps38
      go_wp2_with (go_at_call 40; refine (lock_free Try.muLib ⟨b, 0, none⟩ _ L0.out.1 L0.out.2).mono ?_; rintro e w' ⟨rfl, rfl⟩; have HG := Lib.hid (G3.start (h' := h') (s' := s') (n' := n') HK.out); unfold two3w at HG; generalize World.setCell _ ⟨b, 0, none⟩ (.int .i32 1) = w1 at HG ⊢; obtain ⟨B0, c2, c3, c4, d0, d1, d2⟩ := HG.out.st (Below.refl _ _))
      go_region_held3 (fun w' => Below w1.heap.size w1 w' ∧ w'.cell? ⟨b, 2, none⟩ = some (.int .i64 h) ∧ w'.cell? ⟨b, 3, none⟩ = some (.int .i64 s) ∧ w'.cell? ⟨b, 4, none⟩ = some (.int .i64 n) ∧ w'.cell? ⟨w.heap.size, 0, none⟩ = some (.int .i64 h') ∧ w'.cell? ⟨w.heap.size, 1, none⟩ = some (.int .i64 s') ∧ w'.cell? ⟨w.heap.size, 2, none⟩ = some (.int .i64 n'))
        (first | assumption | exact HG.out.st ((Below.refl _ _).drew) | (refine St3.step ?_ HG.out b3; assumption) | fail)
        (first
          | (go_at_call 43; (refine (expired_any b 1 h s n s' d _ (HG.out.below ((Below.refl _ _).drew)).1 hd0 hd1).mono ?_); rintro e w3 ⟨rfl, b3⟩; rw [HT.out])
          | (go_at_call 45; refine (HX.out _).mono ?_; rintro e w3 ⟨rfl, b3⟩; rw [HE.out])
          | fail)
      all_goals have HB3 := Lib.hid (And.left (by assumption : St3 w w1 b h s n h' s' n' _))
      all_goals (
        have HG3 := Lib.hid (HG.out.below HB3.out)
        obtain ⟨k0, k2, k3, k4, k5⟩ := HG3.out.1.cs
        obtain ⟨x0, x1, x2⟩ := cells3 HG3.out.2.1.ab
        obtain ⟨y0, y1, y2⟩ := cells3 HG3.out.2.2.1.ab
        have p2 := HG3.out.1.fz 2
        have p3 := HG3.out.1.fz 3
        have p4 := HG3.out.1.fz 4
        have q0 := HG3.out.2.2.1.fz 0
        have q1 := HG3.out.2.2.1.fz 1
        have q2 := HG3.out.2.2.1.fz 2
        have ne1 : ¬ b = w.heap.size := by have := HG3.out.2.2.2.1; omega
        have ne2 : ¬ b = w.heap.size + 1 := by have := HG3.out.2.2.2.1; omega
        have ne3 : ¬ w.heap.size = b := fun h => ne1 h.symm
        have ne4 : ¬ w.heap.size + 1 = b := fun h => ne2 h.symm
        go_wp2
        refine leaves_cons (f := 41) (args := #[.pointer (some ⟨b, 0, none⟩)]) (by simp) (by simp [go_sem]) ?_
        refine (unlock_deferred Try.muLib ⟨b, 0, none⟩ .returning _ (HG3.out).noK.cs.1 ((HG3.out).noK.fz 0)).mono ?_
        rintro e u' w'' ⟨rfl, rfl, rfl⟩
        exact ⟨_, res_grant _ rfl rfl ((HG3.out).no _).1, rfl, ((HG3.out).no _).2⟩)
end Go.Proofs.Ytfagjbbljdgefaa
